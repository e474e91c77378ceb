/-
  Contracts of the library's searches at marks and ties; of mark.Fits and Accepting.
-/
import Derived.Test.YtplplkchibefjaaMkC
namespace Go.Proofs.Ytplplkchibefjaa.M5
open Go.RowKit Go.Shelf Go.Proofs.Ytplplkchibefjaa.B

set_option maxRecDepth 100000 in
set_option maxHeartbeats 2000000 in
theorem idx_mk (w : World) (A : Option Addr) (c : Nat) (l : List Mk) (p : Mk → Bool) (fl : Nat) (lb : Array Value) (hr : Row w A (l.flatMap mkC)) (hl : l.length * 24 ≤ 140737488351232) (eg : ∀ args w, (callFunc fl args).run Try.prog w = .ok (.enter fl args) w)
    (hcall : ∀ (W : World) (t : Mk), Below w.heap.size w W → Calls Try.prog fl (#[.agg #[.bool t.inn, .int .i64 t.age, .int .i64 t.due]] ++ lb) W fun e W' => e = .returned (.bool (p t)) ∧ Below W.heap.size W W') :
    Calls Try.prog 89 #[.slice A l.length c, .func (.func fl) #[] lb] w fun e w' => e = .returned (.int .i64 (idxB p l)) ∧ Below w.heap.size w w' := by
  have HC := Lib.hid hcall
  have HR := Lib.hid hr
  clear hcall hr
  go_enter Try.func89, Try.ntmps89
  go_wp2_with fail
  go_loopw [5, 8] (fun _ i wr => ∃ k : Nat, k ≤ l.length ∧ i = .int .i64 k ∧ Hid (∀ j, j < k → p l[j]! = false) ∧ Hid (Below w.heap.size w wr)) (fun _ i _ => l.length - (intOf i).toNat)
  case atStart => exact ⟨0, Nat.zero_le _, rfl, Lib.hid (fun j hj => absurd hj (Nat.not_lt_zero _)), Lib.hid (Below.refl _ _)⟩
  case round =>
    obtain ⟨k, hk, rfl, HP, HB⟩ := hrel
    by_cases hlt : k < l.length
    · obtain ⟨b, off, rfl, hb, hc⟩ := HR.out.at_ (k := 3) (fun _ => rfl) (by omega) hlt
      have k0 := hc 0 _ rfl
      have k1 := hc 1 _ rfl
      have k2 := hc 2 _ rfl
      rw [Nat.add_zero] at k0
      rw [← HB.out.cell (p := ⟨b, _, none⟩) hb] at k0 k1 k2
      have hz := HB.out.size
      have hbz : b < wr.heap.size := by omega
      have C := Lib.hid (HC.out wr l[k]! HB.out)
      cases hp : p l[k]! with
      | true =>
        have HF := Lib.hid (idxB_hit hlt hp HP.out)
        rw [hp] at C
        clear hp hc HP HC
        generalize l[k]! = x at *
        go_wp2_with fail
        refine C.out.mono ?_
        rintro e w3 ⟨rfl, hb3⟩
        have HB3 := Lib.hid (HB.out.trans (hb3.mono hz))
        clear hb3
        go_wp2_with fail
        go_ret
        exact ⟨ret_i64 HF.out.symm, HB3.out⟩
      | false =>
        have HP3 := Lib.hid (all_step HP.out hp)
        rw [hp] at C
        clear hp hc HP
        generalize l[k]! = x at *
        go_wp2_with fail
        refine C.out.mono ?_
        rintro e w3 ⟨rfl, hb3⟩
        have HB3 := Lib.hid (HB.out.trans (hb3.mono hz))
        clear hb3
        go_wp2_with fail
        go_roundw
        case rel => exact ⟨k + 1, hlt, by go_num, HP3, HB3⟩
        case measure => simp [intOf]; omega
    · obtain rfl : k = l.length := by omega
      have HF := Lib.hid (idxB_miss HP.out)
      clear HP
      go_wp2_with fail
      go_ret
      exact ⟨ret_i64 HF.out.symm, HB.out⟩
set_option maxHeartbeats 1000000 in
theorem any_mk (w : World) (A : Option Addr) (c : Nat) (l : List Mk) (p : Mk → Bool) (fl : Nat) (lb : Array Value) (hr : Row w A (l.flatMap mkC)) (hl : l.length * 24 ≤ 140737488351232) (eg : ∀ args w, (callFunc fl args).run Try.prog w = .ok (.enter fl args) w)
    (hcall : ∀ (W : World) (t : Mk), Below w.heap.size w W → Calls Try.prog fl (#[.agg #[.bool t.inn, .int .i64 t.age, .int .i64 t.due]] ++ lb) W fun e W' => e = .returned (.bool (p t)) ∧ Below W.heap.size W W') :
    Calls Try.prog 64 #[.slice A l.length c, .func (.func fl) #[] lb] w fun e w' => e = .returned (.bool (l.any p)) ∧ Below w.heap.size w w' := by
  have HA := Lib.hid (idxB_any p l)
  have C := Lib.hid (idx_mk w A c l p fl lb hr hl eg hcall)
  clear hr hcall
  go_enter Try.func64, Try.ntmps64
  go_wp2_with fail
  refine C.out.mono ?_
  rintro e w3 ⟨rfl, hb3⟩
  have HB := Lib.hid hb3
  clear hb3
  go_wp2_with fail
  go_ret
  exact ⟨ret_bool HA.out, HB.out⟩

set_option maxRecDepth 100000 in
set_option maxHeartbeats 2000000 in
theorem idx_ti (w : World) (A : Option Addr) (c : Nat) (l : List Ti) (p : Ti → Bool) (fl : Nat) (lb : Array Value) (hr : Row w A (l.flatMap tiC)) (hl : l.length * 32 ≤ 140737488351232) (eg : ∀ args w, (callFunc fl args).run Try.prog w = .ok (.enter fl args) w)
    (hcall : ∀ (W : World) (t : Ti), Below w.heap.size w W → Calls Try.prog fl (#[.agg #[.int .i64 t.kind, .int .i64 t.fr, .int .i64 t.to, .int .i64 t.time]] ++ lb) W fun e W' => e = .returned (.bool (p t)) ∧ Below W.heap.size W W') :
    Calls Try.prog 116 #[.slice A l.length c, .func (.func fl) #[] lb] w fun e w' => e = .returned (.int .i64 (idxB p l)) ∧ Below w.heap.size w w' := by
  have HC := Lib.hid hcall
  have HR := Lib.hid hr
  clear hcall hr
  go_enter Try.func116, Try.ntmps116
  go_wp2_with fail
  go_loopw [5, 8] (fun _ i wr => ∃ k : Nat, k ≤ l.length ∧ i = .int .i64 k ∧ Hid (∀ j, j < k → p l[j]! = false) ∧ Hid (Below w.heap.size w wr)) (fun _ i _ => l.length - (intOf i).toNat)
  case atStart => exact ⟨0, Nat.zero_le _, rfl, Lib.hid (fun j hj => absurd hj (Nat.not_lt_zero _)), Lib.hid (Below.refl _ _)⟩
  case round =>
    obtain ⟨k, hk, rfl, HP, HB⟩ := hrel
    by_cases hlt : k < l.length
    · obtain ⟨b, off, rfl, hb, hc⟩ := HR.out.at_ (k := 4) (fun _ => rfl) (by omega) hlt
      have k0 := hc 0 _ rfl
      have k1 := hc 1 _ rfl
      have k2 := hc 2 _ rfl
      have k3 := hc 3 _ rfl
      rw [Nat.add_zero] at k0
      rw [← HB.out.cell (p := ⟨b, _, none⟩) hb] at k0 k1 k2 k3
      have hz := HB.out.size
      have hbz : b < wr.heap.size := by omega
      have C := Lib.hid (HC.out wr l[k]! HB.out)
      cases hp : p l[k]! with
      | true =>
        have HF := Lib.hid (idxB_hit hlt hp HP.out)
        rw [hp] at C
        clear hp hc HP HC
        generalize l[k]! = x at *
        go_wp2_with fail
        refine C.out.mono ?_
        rintro e w3 ⟨rfl, hb3⟩
        have HB3 := Lib.hid (HB.out.trans (hb3.mono hz))
        clear hb3
        go_wp2_with fail
        go_ret
        exact ⟨ret_i64 HF.out.symm, HB3.out⟩
      | false =>
        have HP3 := Lib.hid (all_step HP.out hp)
        rw [hp] at C
        clear hp hc HP
        generalize l[k]! = x at *
        go_wp2_with fail
        refine C.out.mono ?_
        rintro e w3 ⟨rfl, hb3⟩
        have HB3 := Lib.hid (HB.out.trans (hb3.mono hz))
        clear hb3
        go_wp2_with fail
        go_roundw
        case rel => exact ⟨k + 1, hlt, by go_num, HP3, HB3⟩
        case measure => simp [intOf]; omega
    · obtain rfl : k = l.length := by omega
      have HF := Lib.hid (idxB_miss HP.out)
      clear HP
      go_wp2_with fail
      go_ret
      exact ⟨ret_i64 HF.out.symm, HB.out⟩
set_option maxHeartbeats 1000000 in
theorem any_ti (w : World) (A : Option Addr) (c : Nat) (l : List Ti) (p : Ti → Bool) (fl : Nat) (lb : Array Value) (hr : Row w A (l.flatMap tiC)) (hl : l.length * 32 ≤ 140737488351232) (eg : ∀ args w, (callFunc fl args).run Try.prog w = .ok (.enter fl args) w)
    (hcall : ∀ (W : World) (t : Ti), Below w.heap.size w W → Calls Try.prog fl (#[.agg #[.int .i64 t.kind, .int .i64 t.fr, .int .i64 t.to, .int .i64 t.time]] ++ lb) W fun e W' => e = .returned (.bool (p t)) ∧ Below W.heap.size W W') :
    Calls Try.prog 88 #[.slice A l.length c, .func (.func fl) #[] lb] w fun e w' => e = .returned (.bool (l.any p)) ∧ Below w.heap.size w w' := by
  have HA := Lib.hid (idxB_any p l)
  have C := Lib.hid (idx_ti w A c l p fl lb hr hl eg hcall)
  clear hr hcall
  go_enter Try.func88, Try.ntmps88
  go_wp2_with fail
  refine C.out.mono ?_
  rintro e w3 ⟨rfl, hb3⟩
  have HB := Lib.hid hb3
  clear hb3
  go_wp2_with fail
  go_ret
  exact ⟨ret_bool HA.out, HB.out⟩

theorem fits_no {n : Nat} {l : List Mk} (h : ¬ l.length = n) : fitsB n l = false := by unfold fitsB; rw [decide_eq_false h, Bool.false_and]
theorem fits_yes {n : Nat} {l : List Mk} (h : l.length = n) : fitsB n l = !(l.any beyB) := by unfold fitsB; rw [decide_eq_true h, Bool.true_and]
set_option maxRecDepth 100000 in
set_option maxHeartbeats 1000000 in
theorem fits_any (w : World) (EA TA A : Option Addr) (en ec tn tc c : Nat) (l : List Mk) (hr : Row w A (l.flatMap mkC)) (hl : l.length * 24 ≤ 140737488351232) :
    Calls Try.prog 32 #[.agg #[.slice EA en ec, .slice TA tn tc], .slice A l.length c] w fun e w' => e = .returned (.bool (fitsB en l)) ∧ Below w.heap.size w w' := by
  have hb := (Below.refl w.heap.size w).alloc (Nat.le_refl _) (.cells #[.slice EA en ec, .slice TA tn tc] 32)
  by_cases he : l.length = en
  · have HF := Lib.hid (fits_yes he)
    have C := Lib.hid (any_mk (w.alloc (.cells #[.slice EA en ec, .slice TA tn tc] 32)) A c l beyB 65 #[] (hr.below (Nat.le_refl _) hb) hl (enters_of Try.func65 (by kernel_rfl) rfl) (fun W t _ => beyond_any t W))
    have e1 : ((l.length : Int) == (en : Int)) = true := by rw [beq_iff_eq]; omega
    have HB := Lib.hid hb
    clear he hr hb
    go_enter Try.func32, Try.ntmps32
    go_wp2_with fail
    refine C.out.mono ?_
    rintro e w3 ⟨rfl, hb3⟩
    have HB3 := Lib.hid (HB.out.trans (hb3.mono HB.out.size))
    clear hb3
    go_wp2_with fail
    go_ret
    exact ⟨ret_bool HF.out.symm, HB3.out⟩
  · have HF := Lib.hid (fits_no he)
    have e1 : ((l.length : Int) == (en : Int)) = false := by rw [beq_eq_false_iff_ne]; omega
    clear he
    go_enter Try.func32, Try.ntmps32
    go_wp2_with fail
    go_ret
    exact ⟨ret_bool HF.out.symm, hb⟩
theorem wait_bel (v : Mk) (w : World) : Calls Try.prog 66 #[.agg #[.bool v.inn, .int .i64 v.age, .int .i64 v.due]] w fun e w' => e = .returned (.bool (waitB v)) ∧ Below w.heap.size w w' :=
  (waiting_any v w).mono fun e w' ⟨h1, h2⟩ => ⟨h1, by rw [h2]; exact (Below.refl _ _).alloc (Nat.le_refl _) _⟩
set_option maxRecDepth 100000 in
set_option maxHeartbeats 1000000 in
theorem acc_any (w : World) (EA TA A : Option Addr) (en ec tn tc c : Nat) (l : List Mk) (hr : Row w A (l.flatMap mkC)) (hl : l.length * 24 ≤ 140737488351232) :
    Calls Try.prog 36 #[.agg #[.slice EA en ec, .slice TA tn tc], .slice A l.length c] w fun e w' => e = .returned (.bool (accB en l)) ∧ Below w.heap.size w w' := by
  have hb := (Below.refl w.heap.size w).alloc (Nat.le_refl _) (.cells #[.slice EA en ec, .slice TA tn tc] 32)
  have C := Lib.hid (fits_any (w.alloc (.cells #[.slice EA en ec, .slice TA tn tc] 32)) EA TA A en ec tn tc c l (hr.below (Nat.le_refl _) hb) hl)
  have D := fun W (hW : Below w.heap.size w W) => Lib.hid (any_mk W A c l waitB 66 #[] (hr.below (Nat.le_refl _) hW) hl (enters_of Try.func66 (by kernel_rfl) rfl) (fun W t _ => wait_bel t W))
  have HD := Lib.hid D
  have HB := Lib.hid hb
  clear hr hb D
  have HA : Hid (accB en l = (fitsB en l && !(l.any waitB))) := Lib.hid rfl
  cases hf : fitsB en l with
  | false =>
    rw [hf] at C HA
    clear hf
    go_enter Try.func36, Try.ntmps36
    go_wp2_with fail
    refine C.out.mono ?_
    rintro e w3 ⟨rfl, hb3⟩
    have HB3 := Lib.hid (HB.out.trans (hb3.mono HB.out.size))
    clear hb3
    go_wp2_with fail
    go_ret
    exact ⟨ret_bool HA.out.symm, HB3.out⟩
  | true =>
    rw [hf] at C HA
    clear hf
    go_enter Try.func36, Try.ntmps36
    go_wp2_with fail
    refine C.out.mono ?_
    rintro e w3 ⟨rfl, hb3⟩
    have HB3 := Lib.hid (HB.out.trans (hb3.mono HB.out.size))
    have E := HD.out w3 HB3.out
    clear hb3
    go_wp2_with fail
    refine E.out.mono ?_
    rintro e w4 ⟨rfl, hb4⟩
    have HB4 := Lib.hid (HB3.out.trans (hb4.mono HB3.out.size))
    clear hb4
    go_wp2_with fail
    go_ret
    exact ⟨ret_bool (by rw [HA.out]; simp), HB4.out⟩
end Go.Proofs.Ytplplkchibefjaa.M5
