/-
  Contracts of the small functions of package mark: isBeyond, isWaiting, within, has, holds, touched, older.
-/
import Derived.Test.YtplplkchibefjaaProg
import Derived.Test.YtplplkchibefjaaMkM
namespace Go.Proofs.Ytplplkchibefjaa.M5
open Go.RowKit Go.Shelf Go.Proofs.Ytplplkchibefjaa.B

set_option maxHeartbeats 400000 in
theorem beyond_any (v : Mk) (w : World) : Calls Try.prog 65 #[.agg #[.bool v.inn, .int .i64 v.age, .int .i64 v.due]] w fun e w' => e = .returned (.bool (beyB v)) ∧ Below w.heap.size w w' := by
  have hb := (Below.refl w.heap.size w).alloc (Nat.le_refl _) (.cells #[.bool v.inn, .int .i64 v.age, .int .i64 v.due] 77)
  go_enter Try.func65, Try.ntmps65
  go_wp2
  all_goals go_ret
  all_goals exact ⟨ret_bool (by rw [Bool.eq_iff_iff]; simp [beyB]; try omega), hb⟩
set_option maxHeartbeats 400000 in
theorem waiting_any (v : Mk) (w : World) : Calls Try.prog 66 #[.agg #[.bool v.inn, .int .i64 v.age, .int .i64 v.due]] w fun e w' => e = .returned (.bool (waitB v)) ∧ w' = w.alloc (.cells #[.bool v.inn, .int .i64 v.age, .int .i64 v.due] 77) := by
  obtain ⟨inn, age, due⟩ := v
  cases inn with
  | false =>
    go_enter Try.func66, Try.ntmps66
    go_wp2
    all_goals go_ret
    all_goals exact ⟨ret_bool (by simp [waitB]), rfl⟩
  | true =>
    go_enter Try.func66, Try.ntmps66
    go_wp2
    all_goals go_ret
    all_goals exact ⟨ret_bool (by simp [waitB]; try omega), rfl⟩
set_option maxHeartbeats 400000 in
theorem within_any (a n b : Int) (w : World) : Calls Try.prog 67 #[.int .i64 a, .int .i64 n, .int .i64 b] w fun e w' => e = .returned (.int .i64 (withI a n b)) ∧ w = w' := by
  go_enter Try.func67, Try.ntmps67
  go_wp2
  all_goals go_ret
  all_goals exact ⟨ret_i64 (by simp only [withI]; try omega), rfl⟩
set_option maxHeartbeats 400000 in
theorem has_any (A : Option Addr) (n c : Nat) (i : Int) (w : World) : Calls Try.prog 60 #[.slice A n c, .int .i64 i] w fun e w' => e = .returned (.bool (hasI n i)) ∧ w = w' := by
  go_enter Try.func60, Try.ntmps60
  go_wp2
  all_goals go_ret
  all_goals exact ⟨ret_bool (by rw [Bool.eq_iff_iff]; simp [hasI]; try omega), rfl⟩

theorem holds_no {l : List Mk} {t : Ti} (h : hasI l.length t.fr = false) : holdsB l t = false := by unfold holdsB; rw [h, Bool.false_and]
theorem holds_yes {l : List Mk} {kind to time : Int} {k : Nat} (hk : k < l.length) : holdsB l ⟨kind, k, to, time⟩ = if kind = 1 then l[k]!.inn && decide (l[k]!.age < max time 0) else if kind = 5 then waitB l[k]! else false := by
  unfold holdsB; rw [has_nat hk, Bool.true_and]; rfl
set_option maxRecDepth 100000 in
set_option maxHeartbeats 1000000 in
theorem holds_any (w : World) (A : Option Addr) (c : Nat) (l : List Mk) (t : Ti) (hr : Row w A (l.flatMap mkC)) :
    Calls Try.prog 61 #[.agg #[.int .i64 t.kind, .int .i64 t.fr, .int .i64 t.to, .int .i64 t.time], .slice A l.length c] w fun e w' => e = .returned (.bool (holdsB l t)) ∧ Below w.heap.size w w' := by
  have hb := (Below.refl w.heap.size w).alloc (Nat.le_refl _) (.cells #[.int .i64 t.kind, .int .i64 t.fr, .int .i64 t.to, .int .i64 t.time] 49)
  cases hh : hasI l.length t.fr with
  | false =>
    have HH := Lib.hid (holds_no hh)
    have C := fun W => Lib.hid (has_any A l.length c t.fr W)
    rw [hh] at C
    clear hh
    go_enter Try.func61, Try.ntmps61
    go_wp2_with (go_at_call 60; refine (C _).out.mono ?_; rintro e w' ⟨rfl, rfl⟩)
    go_ret
    exact ⟨ret_bool HH.out.symm, hb⟩
  | true =>
    obtain ⟨k, hk, e⟩ := has_iff.1 hh
    obtain ⟨kind, fr, to, time⟩ := t
    simp only at e
    subst e
    have C := fun W => Lib.hid (has_any A l.length c (k : Int) W)
    rw [show hasI l.length (k : Int) = true from hh] at C
    have HY := Lib.hid (holds_yes (kind := kind) (to := to) (time := time) hk)
    obtain ⟨b, off, rfl, hbl, hc⟩ := hr.at_ (k := 3) (fun _ => rfl) (by omega) hk
    have k0 := hc 0 _ rfl
    have k1 := hc 1 _ rfl
    have k2 := hc 2 _ rfl
    rw [Nat.add_zero] at k0
    clear hc hh hr
    generalize l[k]! = v at *
    obtain ⟨inn, age, due⟩ := v
    have hb2 := fun o => hb.alloc (by rw [World.size_alloc]; omega) (o := o)
    by_cases h1 : kind = 1
    · rw [if_pos h1] at HY
      subst h1
      cases inn with
      | false =>
        go_enter Try.func61, Try.ntmps61
        go_wp2_with (go_at_call 60; refine (C _).out.mono ?_; rintro e w' ⟨rfl, rfl⟩)
        all_goals go_ret
        all_goals exact ⟨ret_bool (by rw [HY.out]; simp), hb2 _⟩
      | true =>
        go_enter Try.func61, Try.ntmps61
        go_wp2_with (go_at_call 60; refine (C _).out.mono ?_; rintro e w' ⟨rfl, rfl⟩)
        all_goals go_ret
        all_goals exact ⟨ret_bool (by rw [HY.out, Bool.eq_iff_iff]; simp; try omega), hb2 _⟩
    · have e1 : (kind == 1) = false := beq_eq_false_iff_ne.2 h1
      rw [if_neg h1] at HY
      clear h1
      by_cases h5 : kind = 5
      · rw [if_pos h5] at HY
        subst h5
        have D := fun W => Lib.hid (waiting_any ⟨inn, age, due⟩ W)
        go_enter Try.func61, Try.ntmps61
        go_wp2_with (first
          | (go_at_call 60; refine (C _).out.mono ?_; rintro e w' ⟨rfl, rfl⟩)
          | (go_at_call 66; refine (D _).out.mono ?_; rintro e w' ⟨rfl, rfl⟩))
        go_ret
        exact ⟨ret_bool HY.out.symm, (hb2 _).alloc (by rw [World.size_alloc, World.size_alloc]; omega) _⟩
      · have e5 : (kind == 5) = false := beq_eq_false_iff_ne.2 h5
        rw [if_neg h5] at HY
        clear h5
        go_enter Try.func61, Try.ntmps61
        go_wp2_with (go_at_call 60; refine (C _).out.mono ?_; rintro e w' ⟨rfl, rfl⟩)
        go_ret
        exact ⟨ret_bool HY.out.symm, hb2 _⟩
end Go.Proofs.Ytplplkchibefjaa.M5
