/-
  Contracts of touched, copied.
-/
import Derived.Test.YtplplkchibefjaaMkB
namespace Go.Proofs.Ytplplkchibefjaa.M5
open Go.RowKit Go.Shelf Go.Proofs.Ytplplkchibefjaa.B

theorem touch2 {v : Mk} {t : Ti} (h : t.kind = 2) : touchM v t = if v.due < 0 ∨ withI 0 t.time 1048576 < v.due then { v with due := withI 0 t.time 1048576 } else v := by unfold touchM; rw [if_pos h]
theorem touch4 {v : Mk} {t : Ti} (h : t.kind = 4) : touchM v t = { v with inn := false } := by unfold touchM; rw [if_neg (by omega), if_pos h]
theorem touch3 {v : Mk} {t : Ti} (h : t.kind = 3) : touchM v t = { v with inn := true } := by unfold touchM; rw [if_neg (by omega), if_neg (by omega), if_pos h]
theorem touch0 {v : Mk} {t : Ti} (h2 : t.kind ≠ 2) (h4 : t.kind ≠ 4) (h3 : t.kind ≠ 3) : touchM v t = v := by unfold touchM; rw [if_neg h2, if_neg h4, if_neg h3]
set_option maxRecDepth 100000 in
set_option maxHeartbeats 2000000 in
theorem touched_any (v : Mk) (t : Ti) (w : World) : Calls Try.prog 69 #[.agg #[.bool v.inn, .int .i64 v.age, .int .i64 v.due], .agg #[.int .i64 t.kind, .int .i64 t.fr, .int .i64 t.to, .int .i64 t.time]] w fun e w' => e = .returned (.agg #[.bool (touchM v t).inn, .int .i64 (touchM v t).age, .int .i64 (touchM v t).due]) ∧ Below w.heap.size w w' := by
  obtain ⟨inn, age, due⟩ := v
  by_cases h2 : t.kind = 2
  · have D := fun W => Lib.hid (within_any 0 t.time 1048576 W)
    have E := touch2 (v := ⟨inn, age, due⟩) h2
    rw [h2]
    generalize withI 0 t.time 1048576 = d at *
    simp only at E
    clear h2
    by_cases h : due < 0
    · rw [if_pos (.inl h)] at E
      rw [E]
      go_enter Try.func69, Try.ntmps69
      go_wp2_with (go_at_call 67; refine (D _).out.mono ?_; rintro e w' ⟨rfl, rfl⟩)
      exact bodyPost_ret (v := .agg #[.bool inn, .int .i64 age, .int .i64 d]) (by simp [results, Try.results69, go_sem]) rfl ⟨rfl, below3 _ _ _ _⟩
    · by_cases h' : d < due
      · rw [if_pos (.inr h')] at E
        rw [E]
        go_enter Try.func69, Try.ntmps69
        go_wp2_with (go_at_call 67; refine (D _).out.mono ?_; rintro e w' ⟨rfl, rfl⟩)
        exact bodyPost_ret (v := .agg #[.bool inn, .int .i64 age, .int .i64 d]) (by simp [results, Try.results69, go_sem]) rfl ⟨rfl, below3 _ _ _ _⟩
      · rw [if_neg (by omega)] at E
        rw [E]
        go_enter Try.func69, Try.ntmps69
        go_wp2_with (go_at_call 67; refine (D _).out.mono ?_; rintro e w' ⟨rfl, rfl⟩)
        exact bodyPost_ret (v := .agg #[.bool inn, .int .i64 age, .int .i64 due]) (by simp [results, Try.results69, go_sem]) rfl ⟨rfl, below3 _ _ _ _⟩
  · by_cases h4 : t.kind = 4
    · rw [touch4 h4, h4]
      clear h2 h4
      go_enter Try.func69, Try.ntmps69
      go_wp2
      exact bodyPost_ret (v := .agg #[.bool false, .int .i64 age, .int .i64 due]) (by simp [results, Try.results69, go_sem]) rfl ⟨rfl, below3 _ _ _ _⟩
    · by_cases h3 : t.kind = 3
      · rw [touch3 h3, h3]
        clear h2 h4 h3
        go_enter Try.func69, Try.ntmps69
        go_wp2
        exact bodyPost_ret (v := .agg #[.bool true, .int .i64 age, .int .i64 due]) (by simp [results, Try.results69, go_sem]) rfl ⟨rfl, below3 _ _ _ _⟩
      · rw [touch0 h2 h4 h3]
        have e2 : (t.kind == 2) = false := beq_eq_false_iff_ne.2 h2
        have e4 : (t.kind == 4) = false := beq_eq_false_iff_ne.2 h4
        have e3 : (t.kind == 3) = false := beq_eq_false_iff_ne.2 h3
        clear h2 h4 h3
        go_enter Try.func69, Try.ntmps69
        go_wp2
        exact bodyPost_ret (v := .agg #[.bool inn, .int .i64 age, .int .i64 due]) (by simp [results, Try.results69, go_sem]) rfl ⟨rfl, below3 _ _ _ _⟩

theorem info_mk : (Try.prog.info? 77).map (fun i => (i.zero, i.size, i.bytes)) = some (some (.agg #[.bool false, .int .i64 0, .int .i64 0]), 3, 24) := by kernel_rfl
theorem size_mk : (Try.prog.info? 77).map (·.size) = some 3 := by kernel_rfl
set_option maxRecDepth 100000 in
set_option maxHeartbeats 2000000 in
theorem copied_any (w : World) (A : Option Addr) (c : Nat) (l : List Mk) (hr : Row w A (l.flatMap mkC)) (hl : l.length * 24 ≤ 140737488351232) :
    Calls Try.prog 68 #[.slice A l.length c] w fun e w' => e = .returned (.slice (some ⟨w.heap.size, 0, none⟩) l.length l.length) ∧ w'.ownsRow w.heap.size 77 3 (.slice (some ⟨w.heap.size, 0, none⟩) l.length l.length) l.length (l.flatMap mkC) ∧ Below w.heap.size w w' := by
  obtain ⟨i0, hi, hz0, hz1, hz2⟩ := info_parts info_mk
  have HI := Lib.hid hi
  have HZ0 := Lib.hid hz0
  have HZ1 := Lib.hid hz1
  have HZ2 := Lib.hid hz2
  have HFL := Lib.hid (flat_len mkC 3 (fun _ => rfl) l)
  have HO := Lib.hid (flat_one one_mk l)
  have HR := Lib.hid hr
  clear hi hz0 hz1 hz2 hr
  go_enter Try.func68, Try.ntmps68
  go_wp2_with (at_make; refine wpList_make_full _ rfl (.tmp 5) (.tmp 5) 57 rfl w.heap.size 77 i0 _ 3 Try.underlying57 HI.out HZ0.out HZ1.out .i64 .i64 _ _ l.length rfl rfl rfl rfl ?b2 ?b3 (Nat.le_refl _) ?_)
  case b2 => rw [HZ2.out]; omega
  case b3 => unfold maxLen; omega
  intro w1 hown hgrow
  have hb1 : Below w.heap.size w w1 := (Below.refl _ _).grown hgrow (Nat.le_refl _) (fun _ e => by cases e)
  obtain ⟨w2, hrun, r1, r2⟩ := run_copy_whole (P := Try.prog) w1 57 57 3 77 3 w.heap.size w.heap.size l.length l.length c A _ (l.flatMap mkC) Try.underlying57 size_mk hown HFL.out (fun j v hj => by
    obtain ⟨b, off, e, hb, hc⟩ := HR.out (fun e => by rw [e, List.getElem?_nil] at hj; cases hj)
    exact ⟨_, e, by rw [Addr.add_lit]; exact (hb1.cell (p := ⟨b, off + j, none⟩) hb).trans (hc j v hj)⟩) HO.out
  have HF := Lib.hid (⟨rfl, r1, hb1.grown r2 hb1.size (fun k e => by cases e; exact Nat.le_refl _)⟩ : Ending.returned (.slice (some ⟨w.heap.size, 0, none⟩) l.length l.length) = Ending.returned (.slice (some ⟨w.heap.size, 0, none⟩) l.length l.length) ∧ w2.ownsRow w.heap.size 77 3 (.slice (some ⟨w.heap.size, 0, none⟩) l.length l.length) l.length (l.flatMap mkC) ∧ Below w.heap.size w w2)
  clear hown hgrow hb1 r1 r2
  go_wp2_with fail
  go_ret
  exact ⟨rfl, HF.out.2⟩
end Go.Proofs.Ytplplkchibefjaa.M5
