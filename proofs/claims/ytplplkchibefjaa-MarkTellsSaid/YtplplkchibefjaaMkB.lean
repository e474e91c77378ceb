/-
  Contracts of touched, older, copied.
-/
import Derived.Test.YtplplkchibefjaaMkA
namespace Go.Proofs.Ytplplkchibefjaa.M5
open Go.RowKit Go.Shelf Go.Proofs.Ytplplkchibefjaa.B

theorem below3 (w : World) (a b c : Obj) : Below w.heap.size w (((w.alloc a).alloc b).alloc c) :=
  (((Below.refl _ _).alloc (Nat.le_refl _) _).alloc (by rw [World.size_alloc]; omega) _).alloc (by rw [World.size_alloc, World.size_alloc]; omega) _
theorem old_eq {inn i2 : Bool} {age due a2 d2 : Int} (h0 : i2 = inn) (h1 : a2 = (if 0 ≤ age then min (age + 1) 65536 else age)) (h2 : d2 = if inn = true ∧ 0 ≤ due ∧ due < 1048576 then due - 1 else due) : (⟨i2, a2, d2⟩ : Mk) = oldM ⟨inn, age, due⟩ := by
  subst h0 h1 h2
  simp only [oldM, waitB]
  cases i2 <;> simp <;> split <;> split <;> simp_all <;> omega
theorem wait_false (a d : Int) : waitB ⟨false, a, d⟩ = false := rfl
theorem wait_neg {a d : Int} (h : ¬ 0 ≤ d) : waitB ⟨true, a, d⟩ = false := by simp [waitB]; omega
theorem wait_pos {a d : Int} (h : 0 ≤ d) : waitB ⟨true, a, d⟩ = true := by simp [waitB]; omega
set_option maxRecDepth 100000 in
set_option maxHeartbeats 2000000 in
theorem older_any (v : Mk) (hv : beyB v = false) (w : World) : Calls Try.prog 70 #[.agg #[.bool v.inn, .int .i64 v.age, .int .i64 v.due]] w fun e w' => e = .returned (.agg #[.bool (oldM v).inn, .int .i64 (oldM v).age, .int .i64 (oldM v).due]) ∧ Below w.heap.size w w' := by
  obtain ⟨h1, h2, h3, h4⟩ := bey_iff.1 hv
  clear hv
  obtain ⟨inn, age, due⟩ := v
  simp only at h1 h2 h3 h4
  have hcase : (¬ 0 ≤ age) ∨ (0 ≤ age ∧ age + 1 ≤ 65536) ∨ (age = 65536) := by omega
  rcases hcase with h0 | h0 | h0
  · have E := fun d2 hd => Lib.hid (old_eq (inn := inn) (i2 := inn) (age := age) (due := due) (a2 := age) (d2 := d2) rfl (by rw [if_neg h0]) hd)
    cases inn with
    | false =>
      have D := fun W => Lib.hid (waiting_any ⟨false, age, due⟩ W)
      rw [show waitB ⟨false, age, due⟩ = false from wait_false _ _] at D
      rw [← (E due (by simp)).out]
      clear E
      go_enter Try.func70, Try.ntmps70
      go_wp2_with (go_at_call 66; refine (D _).out.mono ?_; rintro e w' ⟨rfl, rfl⟩)
      exact bodyPost_ret (v := .agg #[.bool false, .int .i64 age, .int .i64 due]) (by simp [results, Try.results70, go_sem]) rfl ⟨rfl, below3 _ _ _ _⟩
    | true =>
      by_cases hd : 0 ≤ due
      · have hd0 := hd
        by_cases hd5 : due < 1048576
        · have D := fun W => Lib.hid (waiting_any ⟨true, age, due⟩ W)
          rw [show waitB ⟨true, age, due⟩ = true from wait_pos hd0] at D
          rw [← (E (due - 1) (by rw [if_pos (by simp; omega)])).out]
          clear E
          go_enter Try.func70, Try.ntmps70
          go_wp2_with (go_at_call 66; refine (D _).out.mono ?_; rintro e w' ⟨rfl, rfl⟩)
          exact bodyPost_ret (v := .agg #[.bool true, .int .i64 age, .int .i64 (due - 1)]) (by simp [results, Try.results70, go_sem]) rfl ⟨rfl, below3 _ _ _ _⟩
        · have D := fun W => Lib.hid (waiting_any ⟨true, age, due⟩ W)
          rw [show waitB ⟨true, age, due⟩ = true from wait_pos hd0] at D
          rw [← (E due (by rw [if_neg (by simp; omega)])).out]
          clear E
          go_enter Try.func70, Try.ntmps70
          go_wp2_with (go_at_call 66; refine (D _).out.mono ?_; rintro e w' ⟨rfl, rfl⟩)
          exact bodyPost_ret (v := .agg #[.bool true, .int .i64 age, .int .i64 due]) (by simp [results, Try.results70, go_sem]) rfl ⟨rfl, below3 _ _ _ _⟩
      · have D := fun W => Lib.hid (waiting_any ⟨true, age, due⟩ W)
        rw [show waitB ⟨true, age, due⟩ = false from wait_neg hd] at D
        rw [← (E due (by rw [if_neg (by simp; omega)])).out]
        clear E
        go_enter Try.func70, Try.ntmps70
        go_wp2_with (go_at_call 66; refine (D _).out.mono ?_; rintro e w' ⟨rfl, rfl⟩)
        exact bodyPost_ret (v := .agg #[.bool true, .int .i64 age, .int .i64 due]) (by simp [results, Try.results70, go_sem]) rfl ⟨rfl, below3 _ _ _ _⟩
  · obtain ⟨h0, ht⟩ := h0
    have E := fun d2 hd => Lib.hid (old_eq (inn := inn) (i2 := inn) (age := age) (due := due) (a2 := (age + 1)) (d2 := d2) rfl (by rw [if_pos h0]; omega) hd)
    cases inn with
    | false =>
      have D := fun W => Lib.hid (waiting_any ⟨false, (age + 1), due⟩ W)
      rw [show waitB ⟨false, (age + 1), due⟩ = false from wait_false _ _] at D
      rw [← (E due (by simp)).out]
      clear E
      go_enter Try.func70, Try.ntmps70
      go_wp2_with (go_at_call 66; refine (D _).out.mono ?_; rintro e w' ⟨rfl, rfl⟩)
      exact bodyPost_ret (v := .agg #[.bool false, .int .i64 (age + 1), .int .i64 due]) (by simp [results, Try.results70, go_sem]) rfl ⟨rfl, below3 _ _ _ _⟩
    | true =>
      by_cases hd : 0 ≤ due
      · have hd0 := hd
        by_cases hd5 : due < 1048576
        · have D := fun W => Lib.hid (waiting_any ⟨true, (age + 1), due⟩ W)
          rw [show waitB ⟨true, (age + 1), due⟩ = true from wait_pos hd0] at D
          rw [← (E (due - 1) (by rw [if_pos (by simp; omega)])).out]
          clear E
          go_enter Try.func70, Try.ntmps70
          go_wp2_with (go_at_call 66; refine (D _).out.mono ?_; rintro e w' ⟨rfl, rfl⟩)
          exact bodyPost_ret (v := .agg #[.bool true, .int .i64 (age + 1), .int .i64 (due - 1)]) (by simp [results, Try.results70, go_sem]) rfl ⟨rfl, below3 _ _ _ _⟩
        · have D := fun W => Lib.hid (waiting_any ⟨true, (age + 1), due⟩ W)
          rw [show waitB ⟨true, (age + 1), due⟩ = true from wait_pos hd0] at D
          rw [← (E due (by rw [if_neg (by simp; omega)])).out]
          clear E
          go_enter Try.func70, Try.ntmps70
          go_wp2_with (go_at_call 66; refine (D _).out.mono ?_; rintro e w' ⟨rfl, rfl⟩)
          exact bodyPost_ret (v := .agg #[.bool true, .int .i64 (age + 1), .int .i64 due]) (by simp [results, Try.results70, go_sem]) rfl ⟨rfl, below3 _ _ _ _⟩
      · have D := fun W => Lib.hid (waiting_any ⟨true, (age + 1), due⟩ W)
        rw [show waitB ⟨true, (age + 1), due⟩ = false from wait_neg hd] at D
        rw [← (E due (by rw [if_neg (by simp; omega)])).out]
        clear E
        go_enter Try.func70, Try.ntmps70
        go_wp2_with (go_at_call 66; refine (D _).out.mono ?_; rintro e w' ⟨rfl, rfl⟩)
        exact bodyPost_ret (v := .agg #[.bool true, .int .i64 (age + 1), .int .i64 due]) (by simp [results, Try.results70, go_sem]) rfl ⟨rfl, below3 _ _ _ _⟩
  · subst h0
    have E := fun d2 hd => Lib.hid (old_eq (inn := inn) (i2 := inn) (age := 65536) (due := due) (a2 := 65536) (d2 := d2) rfl (by decide) hd)
    cases inn with
    | false =>
      have D := fun W => Lib.hid (waiting_any ⟨false, 65536, due⟩ W)
      rw [show waitB ⟨false, 65536, due⟩ = false from wait_false _ _] at D
      rw [← (E due (by simp)).out]
      clear E
      go_enter Try.func70, Try.ntmps70
      go_wp2_with (go_at_call 66; refine (D _).out.mono ?_; rintro e w' ⟨rfl, rfl⟩)
      exact bodyPost_ret (v := .agg #[.bool false, .int .i64 65536, .int .i64 due]) (by simp [results, Try.results70, go_sem]) rfl ⟨rfl, below3 _ _ _ _⟩
    | true =>
      by_cases hd : 0 ≤ due
      · have hd0 := hd
        by_cases hd5 : due < 1048576
        · have D := fun W => Lib.hid (waiting_any ⟨true, 65536, due⟩ W)
          rw [show waitB ⟨true, 65536, due⟩ = true from wait_pos hd0] at D
          rw [← (E (due - 1) (by rw [if_pos (by simp; omega)])).out]
          clear E
          go_enter Try.func70, Try.ntmps70
          go_wp2_with (go_at_call 66; refine (D _).out.mono ?_; rintro e w' ⟨rfl, rfl⟩)
          exact bodyPost_ret (v := .agg #[.bool true, .int .i64 65536, .int .i64 (due - 1)]) (by simp [results, Try.results70, go_sem]) rfl ⟨rfl, below3 _ _ _ _⟩
        · have D := fun W => Lib.hid (waiting_any ⟨true, 65536, due⟩ W)
          rw [show waitB ⟨true, 65536, due⟩ = true from wait_pos hd0] at D
          rw [← (E due (by rw [if_neg (by simp; omega)])).out]
          clear E
          go_enter Try.func70, Try.ntmps70
          go_wp2_with (go_at_call 66; refine (D _).out.mono ?_; rintro e w' ⟨rfl, rfl⟩)
          exact bodyPost_ret (v := .agg #[.bool true, .int .i64 65536, .int .i64 due]) (by simp [results, Try.results70, go_sem]) rfl ⟨rfl, below3 _ _ _ _⟩
      · have D := fun W => Lib.hid (waiting_any ⟨true, 65536, due⟩ W)
        rw [show waitB ⟨true, 65536, due⟩ = false from wait_neg hd] at D
        rw [← (E due (by rw [if_neg (by simp; omega)])).out]
        clear E
        go_enter Try.func70, Try.ntmps70
        go_wp2_with (go_at_call 66; refine (D _).out.mono ?_; rintro e w' ⟨rfl, rfl⟩)
        exact bodyPost_ret (v := .agg #[.bool true, .int .i64 65536, .int .i64 due]) (by simp [results, Try.results70, go_sem]) rfl ⟨rfl, below3 _ _ _ _⟩
end Go.Proofs.Ytplplkchibefjaa.M5
