/-
  Contracts of the document's Slack and Accepting.
-/
import Derived.Test.YtplplkchibefjaaMkRa
namespace Go.Proofs.Ytplplkchibefjaa.M5
open Go.RowKit Go.Shelf Go.Proofs.Ytplplkchibefjaa.B

theorem least_wait {a : Int} {x : Mk} (h1 : x.inn = true) (h2 : 0 ≤ x.due) : leastL a x = min a x.due := by
  unfold leastL waitB; rw [h1, decide_eq_true h2]; rfl
theorem least_out {a : Int} {x : Mk} (h1 : x.inn = false) : leastL a x = a := by
  unfold leastL waitB; rw [h1]; rfl
theorem least_not {a : Int} {x : Mk} (h2 : ¬ 0 ≤ x.due) : leastL a x = a := by
  unfold leastL waitB; rw [decide_eq_false h2, Bool.and_false]; rfl
set_option maxRecDepth 100000 in
set_option maxHeartbeats 2000000 in
theorem rslack_any (w : World) (EA TA A : Option Addr) (en ec tn tc c : Nat) (l : List Mk) (hr : Row w A (l.flatMap mkC)) (hl : l.length * 24 ≤ 140737488351232) :
    Calls Try.prog 35 #[.agg #[.slice EA en ec, .slice TA tn tc], .slice A l.length c] w fun e w' => e = .returned (.int .i64 (slackI en l)) ∧ Below w.heap.size w w' := by
  have B0 := Lib.hid (BX.start 38 w #[.slice EA en ec, .slice TA tn tc])
  have C := Lib.hid (rfits_any (w.alloc (.cells #[.slice EA en ec, .slice TA tn tc] 38)) EA TA A en ec tn tc c l (hr.below (Nat.le_refl _) B0.out.b) hl)
  have HR := Lib.hid hr
  have HS : Hid (slackI en l = if fitsB en l then slackL l else -1) := Lib.hid rfl
  clear hr
  cases hf : fitsB en l with
  | false =>
    rw [hf] at C HS
    clear hf
    go_enter Try.func35, Try.ntmps35
    go_wp2_with fail
    refine C.out.mono ?_
    rintro e w3 ⟨rfl, hb3⟩
    have B3 := Lib.hid (B0.out.call hb3)
    clear hb3
    go_wp2_with fail
    go_ret
    exact ⟨ret_i64 (by rw [HS.out]; rfl), B3.out.b⟩
  | true =>
    rw [hf, if_pos rfl] at HS
    rw [hf] at C
    clear hf
    go_enter Try.func35, Try.ntmps35
    go_wp2_with fail
    refine C.out.mono ?_
    rintro e w3 ⟨rfl, hb3⟩
    have B3 := Lib.hid (B0.out.call hb3)
    clear hb3 C B0
    go_wp2_with fail
    go_loopw [5, 6] (fun v i wr => ∃ k : Nat, k ≤ l.length ∧ i = .int .i64 k ∧ v = .int .i64 ((l.take k).foldl leastL 1048576) ∧ Hid (Below w.heap.size w wr)) (fun _ i _ => l.length - (intOf i).toNat)
    case atStart => exact ⟨0, Nat.zero_le _, rfl, rfl, Lib.hid B3.out.b⟩
    case round =>
      obtain ⟨k, hk, rfl, rfl, HB⟩ := hrel
      by_cases hlt : k < l.length
      · obtain ⟨b, off, rfl, hb, hc⟩ := HR.out.at_ (k := 3) (fun _ => rfl) (by omega) hlt
        have k0 := hc 0 _ rfl
        have k1 := hc 1 _ rfl
        have k2 := hc 2 _ rfl
        rw [Nat.add_zero] at k0
        rw [← HB.out.cell (p := ⟨b, _, none⟩) hb] at k0 k1 k2
        have hz := HB.out.size
        have hbz : b < wr.heap.size := by omega
        have HN := Lib.hid (fold_next (f := leastL) (b := (1048576 : Int)) hlt)
        generalize (l.take k).foldl leastL 1048576 = a at *
        generalize l[k]! = x at *
        obtain ⟨xi, xa, xd⟩ := x
        simp only at k0 k1 k2
        clear hc
        cases xi with
        | false =>
          rw [least_out rfl] at HN
          go_wp2_with fail
          go_roundw
          case rel => exact ⟨k + 1, hlt, by go_num, by rw [HN.out], HB⟩
          case measure => simp [intOf]; omega
        | true =>
          by_cases h0 : 0 ≤ xd
          · rw [least_wait rfl h0] at HN
            by_cases hle : a ≤ xd
            · rw [Int.min_eq_left hle] at HN
              go_wp2_with fail
              go_roundw
              case rel => exact ⟨k + 1, hlt, by go_num, by rw [HN.out], HB⟩
              case measure => simp [intOf]; omega
            · have hle2 : xd ≤ a := by omega
              rw [show min a (Mk.mk true xa xd).due = xd from Int.min_eq_right hle2] at HN
              clear hle2
              go_wp2_with fail
              go_roundw
              case rel => exact ⟨k + 1, hlt, by go_num, by rw [HN.out], HB⟩
              case measure => simp [intOf]; omega
          · rw [least_not h0] at HN
            go_wp2_with fail
            go_roundw
            case rel => exact ⟨k + 1, hlt, by go_num, by rw [HN.out], HB⟩
            case measure => simp [intOf]; omega
      · obtain rfl : k = l.length := by omega
        have e : Hid ((l.take l.length).foldl leastL 1048576 = slackL l) := Lib.hid fold_all
        go_wp2_with fail
        go_ret
        exact ⟨ret_i64 (by rw [HS.out, ← e.out]), HB.out⟩
theorem acc_at {n : Nat} {l : List Mk} {k : Nat} (hk : k < l.length) (h : waitB l[k]! = true) : accB n l = false := by
  unfold accB; rw [any_hit hk h]; simp
theorem acc_end {n : Nat} {l : List Mk} (h : ∀ j, j < l.length → waitB l[j]! = false) : accB n l = fitsB n l := by
  unfold accB; rw [any_miss h]; simp
theorem wait_no1 {a d : Int} : waitB ⟨false, a, d⟩ = false := rfl
theorem wait_no2 {i : Bool} {a d : Int} (h : ¬ 0 ≤ d) : waitB ⟨i, a, d⟩ = false := by unfold waitB; rw [decide_eq_false h, Bool.and_false]
theorem wait_yes {a d : Int} (h : 0 ≤ d) : waitB ⟨true, a, d⟩ = true := by unfold waitB; rw [decide_eq_true h]; rfl
set_option maxRecDepth 100000 in
set_option maxHeartbeats 2000000 in
theorem racc_any (w : World) (EA TA A : Option Addr) (en ec tn tc c : Nat) (l : List Mk) (hr : Row w A (l.flatMap mkC)) (hl : l.length * 24 ≤ 140737488351232) :
    Calls Try.prog 37 #[.agg #[.slice EA en ec, .slice TA tn tc], .slice A l.length c] w fun e w' => e = .returned (.bool (accB en l)) ∧ Below w.heap.size w w' := by
  have B0 := Lib.hid (BX.start 38 w #[.slice EA en ec, .slice TA tn tc])
  have HR := Lib.hid hr
  clear hr
  go_enter Try.func37, Try.ntmps37
  go_wp2_with fail
  go_loopw [5] (fun i wr => ∃ k : Nat, k ≤ l.length ∧ i = .int .i64 k ∧ Hid (∀ j, j < k → waitB l[j]! = false) ∧ Hid (BX 38 w #[.slice EA en ec, .slice TA tn tc] wr)) (fun i _ => l.length - (intOf i).toNat)
  case atStart => exact ⟨0, Nat.zero_le _, rfl, Lib.hid (fun j hj => absurd hj (Nat.not_lt_zero _)), B0⟩
  case round =>
    clear B0
    obtain ⟨k, hk, rfl, HP, HB⟩ := hrel
    by_cases hlt : k < l.length
    · obtain ⟨b, off, rfl, hb, hc⟩ := HR.out.at_ (k := 3) (fun _ => rfl) (by omega) hlt
      have k0 := hc 0 _ rfl
      have k1 := hc 1 _ rfl
      have k2 := hc 2 _ rfl
      rw [Nat.add_zero] at k0
      rw [← HB.out.b.cell (p := ⟨b, _, none⟩) hb] at k0 k1 k2
      have hz := HB.out.lt
      have hbz : b < wr.heap.size := by omega
      have HF := fun h => Lib.hid (acc_at (n := en) hlt h)
      have HP3 := fun h => Lib.hid (all_step (p := waitB) HP.out h)
      generalize l[k]! = x at *
      obtain ⟨xi, xa, xd⟩ := x
      simp only at k0 k1 k2
      clear hc HP
      cases xi with
      | false =>
        have P3 := HP3 wait_no1
        clear HF HP3
        go_wp2_with fail
        go_roundw
        case rel => exact ⟨k + 1, hlt, by go_num, P3, HB⟩
        case measure => simp [intOf]; omega
      | true =>
        by_cases h0 : 0 ≤ xd
        · have F := HF (wait_yes h0)
          clear HF HP3
          go_wp2_with fail
          go_ret
          exact ⟨ret_bool F.out.symm, HB.out.b⟩
        · have P3 := HP3 (wait_no2 h0)
          clear HF HP3
          go_wp2_with fail
          go_roundw
          case rel => exact ⟨k + 1, hlt, by go_num, P3, HB⟩
          case measure => simp [intOf]; omega
    · obtain rfl : k = l.length := by omega
      have HF := Lib.hid (acc_end (n := en) HP.out)
      have C := Lib.hid (rfits_any wr EA TA A en ec tn tc c l (HR.out.below (Nat.le_refl _) HB.out.b) hl)
      obtain ⟨c0, c1⟩ := HB.out.cells
      have ll := HB.out.lt
      clear HP
      go_wp2_with fail
      refine C.out.mono ?_
      rintro e w3 ⟨rfl, hb3⟩
      have B3 := Lib.hid (HB.out.call hb3)
      clear hb3
      go_wp2_with fail
      go_ret
      exact ⟨ret_bool HF.out.symm, B3.out.b⟩
end Go.Proofs.Ytplplkchibefjaa.M5
