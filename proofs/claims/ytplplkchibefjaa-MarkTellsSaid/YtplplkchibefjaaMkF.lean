/-
  Contracts of Start and Slack.
-/
import Derived.Test.YtplplkchibefjaaMkE
import Derived.StillTailTactics
namespace Go.Proofs.Ytplplkchibefjaa.M5
open Go.RowKit Go.Shelf Go.Proofs.Ytplplkchibefjaa.B

theorem fits_of {n : Nat} {l : List Mk} (h : fitsB n l = true) : l.length = n ∧ ∀ v ∈ l, beyB v = false := ⟨fits_len h, fun _ hv => fits_at h hv⟩
set_option maxRecDepth 100000 in
set_option maxHeartbeats 2000000 in
theorem slack_any (w : World) (EA TA A : Option Addr) (en ec tn tc c : Nat) (l : List Mk) (hr : Row w A (l.flatMap mkC)) (hl : l.length * 24 ≤ 140737488351232) :
    Calls Try.prog 34 #[.agg #[.slice EA en ec, .slice TA tn tc], .slice A l.length c] w fun e w' => e = .returned (.int .i64 (slackI en l)) ∧ Below w.heap.size w w' := by
  have hb := (Below.refl w.heap.size w).alloc (Nat.le_refl _) (.cells #[.slice EA en ec, .slice TA tn tc] 32)
  have C := Lib.hid (fits_any (w.alloc (.cells #[.slice EA en ec, .slice TA tn tc] 32)) EA TA A en ec tn tc c l (hr.below (Nat.le_refl _) hb) hl)
  have HB := Lib.hid hb
  have HR := Lib.hid hr
  have HS : Hid (slackI en l = if fitsB en l then slackL l else -1) := Lib.hid rfl
  clear hb hr
  cases hf : fitsB en l with
  | false =>
    rw [hf] at C HS
    clear hf
    go_enter Try.func34, Try.ntmps34
    go_wp2_with fail
    refine C.out.mono ?_
    rintro e w3 ⟨rfl, hb3⟩
    have HB3 := Lib.hid (HB.out.trans (hb3.mono HB.out.size))
    clear hb3
    go_wp2_with fail
    go_ret
    exact ⟨ret_i64 (by rw [HS.out]; rfl), HB3.out⟩
  | true =>
    rw [hf, if_pos rfl] at HS
    rw [hf] at C
    clear hf
    go_enter Try.func34, Try.ntmps34
    go_wp2_with fail
    refine C.out.mono ?_
    rintro e w3 ⟨rfl, hb3⟩
    have HB3 := Lib.hid (HB.out.trans (hb3.mono HB.out.size))
    clear hb3 C HB
    go_wp2_with fail
    go_loopw [5, 14] (fun v i wr => ∃ k : Nat, k ≤ l.length ∧ i = .int .i64 k ∧ v = .int .i64 ((l.take k).foldl leastL 1048576) ∧ Hid (Below w.heap.size w wr)) (fun _ i _ => l.length - (intOf i).toNat)
    case atStart => exact ⟨0, Nat.zero_le _, rfl, rfl, HB3⟩
    case round =>
      obtain ⟨k, hk, rfl, rfl, HB⟩ := hrel
      by_cases hlt : k < l.length
      · obtain ⟨b, off, rfl, hb, hc⟩ := HR.out.at_ (k := 3) (fun _ => rfl) (by omega) hlt
        have k0 := hc 0 _ rfl
        have k1 := hc 1 _ rfl
        have k2 := hc 2 _ rfl
        rw [Nat.add_zero] at k0
        rw [← HB.out.cell (p := ⟨b, _, none⟩) hb] at k0 k1 k2
        have hz := HB.out.size
        have hbz : b < wr.heap.size := by omega
        have HN := Lib.hid (fold_next (f := leastL) (b := (1048576 : Int)) hlt)
        have hbx := HB.out.alloc hz (.cells #[.bool l[k]!.inn, .int .i64 l[k]!.age, .int .i64 l[k]!.due] 77)
        have hnx := heap_new wr (.cells #[.bool l[k]!.inn, .int .i64 l[k]!.age, .int .i64 l[k]!.due] 77)
        have C := Lib.hid (wait_bel l[k]! (wr.alloc (.cells #[.bool l[k]!.inn, .int .i64 l[k]!.age, .int .i64 l[k]!.due] 77)))
        generalize (l.take k).foldl leastL 1048576 = a at *
        generalize l[k]! = x at *
        have HX := Lib.hid hbx
        have HNX := Lib.hid hnx
        clear hc hbx hnx
        cases hw : waitB x with
        | false =>
          have e1 : leastL a x = a := by unfold leastL; rw [hw]; rfl
          rw [e1] at HN
          rw [hw] at C
          clear e1 hw
          go_wp2_with fail
          refine C.out.mono ?_
          rintro e w4 ⟨rfl, hb4⟩
          have HB4 := Lib.hid (HX.out.trans (hb4.mono HX.out.size))
          clear hb4 k0 k1 k2
          go_wp2_with fail
          go_roundw
          case rel => exact ⟨k + 1, hlt, by go_num, by rw [HN.out], HB4⟩
          case measure => simp [intOf]; omega
        | true =>
          have e1 : leastL a x = min a x.due := by unfold leastL; rw [hw]; rfl
          rw [e1] at HN
          rw [hw] at C
          clear e1 hw
          by_cases hle : a ≤ x.due
          · rw [Int.min_eq_left hle] at HN
            go_wp2_with fail
            refine C.out.mono ?_
            rintro e w4 ⟨rfl, hb4⟩
            have HB4 := Lib.hid (HX.out.trans (hb4.mono HX.out.size))
            have hn4 := (hb4.block wr.heap.size (by rw [World.size_alloc]; omega)).trans HNX.out
            have y2 : w4.cell? ⟨wr.heap.size, 2, none⟩ = some (.int .i64 x.due) := cell_blk hn4 rfl
            clear hb4 k0 k1 k2 hn4
            go_wp2_with fail
            go_roundw
            case rel => exact ⟨k + 1, hlt, by go_num, by rw [HN.out], HB4⟩
            case measure => simp [intOf]; omega
          · rw [Int.min_eq_right (by omega)] at HN
            go_wp2_with fail
            refine C.out.mono ?_
            rintro e w4 ⟨rfl, hb4⟩
            have HB4 := Lib.hid (HX.out.trans (hb4.mono HX.out.size))
            have hn4 := (hb4.block wr.heap.size (by rw [World.size_alloc]; omega)).trans HNX.out
            have y2 : w4.cell? ⟨wr.heap.size, 2, none⟩ = some (.int .i64 x.due) := cell_blk hn4 rfl
            clear hb4 k0 k1 k2 hn4
            go_wp2_with fail
            go_roundw
            case rel => exact ⟨k + 1, hlt, by go_num, by rw [HN.out], HB4⟩
            case measure => simp [intOf]; omega
      · obtain rfl : k = l.length := by omega
        have e : Hid ((l.take l.length).foldl leastL 1048576 = slackL l) := Lib.hid fold_all
        go_wp2_with fail
        go_ret
        exact ⟨ret_i64 (by rw [HS.out, ← e.out]), HB.out⟩
end Go.Proofs.Ytplplkchibefjaa.M5
