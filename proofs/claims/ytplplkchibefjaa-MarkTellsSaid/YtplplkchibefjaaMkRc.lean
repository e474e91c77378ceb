/-
  Contract of the document's own Tick.
-/
import Derived.Test.YtplplkchibefjaaMkRa
import Derived.Test.YtplplkchibefjaaMkB
namespace Go.Proofs.Ytplplkchibefjaa.M5
open Go.RowKit Go.Shelf Go.Proofs.Ytplplkchibefjaa.B

def nowB (v : Mk) : Bool := v.inn && decide (v.due = 0)
theorem tick_hit {n : Nat} {l : List Mk} (h : fitsB n l = true) {k : Nat} (hk : k < l.length) (hv : nowB l[k]! = true) : tickE n l = 13 := by
  unfold nowB at hv
  simp only [Bool.and_eq_true, decide_eq_true_eq] at hv
  refine tick_due h ?_
  have hw : waitB l[k]! = true := by unfold waitB; rw [hv.1, hv.2]; rfl
  have h1 : slackL l ≤ l[k]!.due := slack_mem l _ (mem_at hk) hw
  have h2 := slack_nonneg h
  omega
theorem tick_end {n : Nat} {l : List Mk} (h : fitsB n l = true) (hn : ∀ j, j < l.length → nowB l[j]! = false) : tickE n l = 0 := by
  refine tick_yes h ?_
  intro h0
  rcases slack_hit l 1048576 with h2 | ⟨v, hv, hw, h2⟩
  · have : slackL l = 1048576 := h2
    omega
  · have h3 : slackL l = v.due := h2
    obtain ⟨j, hj, rfl⟩ := List.getElem_of_mem hv
    have := hn j hj
    rw [getElem!_pos l j hj] at this
    unfold nowB at this
    unfold waitB at hw
    simp only [Bool.and_eq_true, decide_eq_true_eq] at hw
    rw [hw.1, Bool.true_and, decide_eq_false_iff_not] at this
    omega
def oldL (l : List Mk) (k : Nat) : List Mk := (l.take k).map oldM
theorem oldL_next {l : List Mk} {k : Nat} (hk : k < l.length) : oldL l (k + 1) = oldL l k ++ [oldM l[k]!] := map_next hk
theorem oldL_all (l : List Mk) : oldL l l.length = l.map oldM := by unfold oldL; rw [List.take_length]
theorem oldL_len {l : List Mk} {k : Nat} (hk : k ≤ l.length) : (oldL l k).length = k := by simp [oldL, hk]
theorem own_empty {w : World} {b B z : Nat} {T : TypeId} (h : w.heap[b]? = some (.cells #[] T (0, 0))) (hB : B ≤ b) : w.ownsRow B T z (.slice (some ⟨b, 0, none⟩) 0 0) 0 [] :=
  ⟨by simp, .inr ⟨b, 0, #[], rfl, hB, h, by simp, by unfold maxLen; omega, by simp, by simp⟩⟩
set_option maxRecDepth 100000 in
set_option maxHeartbeats 8000000 in
theorem rtick_any (w : World) (EA TA A : Option Addr) (en ec tn tc c : Nat) (l : List Mk) (hr : Row w A (l.flatMap mkC)) (hl : l.length * 24 ≤ 140737488351232) :
    Calls Try.prog 44 #[.agg #[.slice EA en ec, .slice TA tn tc], .slice A l.length c] w (TickEnd w en l) := by
  obtain ⟨i0, hi, hz0, hz1, hz2⟩ := info_parts info_mk
  have HI := Lib.hid hi
  have HZ0 := Lib.hid hz0
  have HZ1 := Lib.hid hz1
  have HZ2 := Lib.hid hz2
  have B0 := Lib.hid (BX.start 38 w #[.slice EA en ec, .slice TA tn tc])
  have C := Lib.hid (rfits_any (w.alloc (.cells #[.slice EA en ec, .slice TA tn tc] 38)) EA TA A en ec tn tc c l (hr.below (Nat.le_refl _) B0.out.b) hl)
  have HR := Lib.hid hr
  have HE : Hid (tickE en l = if fitsB en l then (if slackL l = 0 then 13 else 0) else 1) := Lib.hid rfl
  clear hr hi hz0 hz1 hz2
  cases hf : fitsB en l with
  | false =>
    rw [hf] at C HE
    clear hf
    go_enter Try.func44, Try.ntmps44
    go_wp2_with fail
    refine C.out.mono ?_
    rintro e w3 ⟨rfl, hb3⟩
    have B3 := Lib.hid (B0.out.call hb3)
    clear hb3
    go_wp2_with fail
    go_ret2
    have e1 : tickE en l = 1 := HE.out
    exact ⟨B3.out.b, _, by rw [e1]; rfl, fun h => absurd (e1.symm.trans h) (by decide), fun _ => rfl⟩
  | true =>
    have HF := Lib.hid hf
    rw [hf] at C
    clear hf HE
    go_enter Try.func44, Try.ntmps44
    go_wp2_with fail
    refine C.out.mono ?_
    rintro e w3 ⟨rfl, hb3⟩
    have B3 := Lib.hid (B0.out.call hb3)
    have hz3 := B3.out.lt
    clear hb3 C B0
    have B4 := Lib.hid (B3.out.alloc (.cells #[] 77))
    have V4 : Hid ((w3.alloc (.cells #[] 77)).ownsRow w.heap.size 77 3 (.slice (some ⟨w3.heap.size, 0, none⟩) 0 0) 0 ((oldL l 0).flatMap mkC)) := Lib.hid (own_empty (heap_new _ _) (Nat.le_of_lt hz3))
    clear B3
    go_wp2_with fail
    go_loopw [6, 7] (fun v i wr => ∃ k : Nat, k ≤ l.length ∧ i = .int .i64 k ∧ Hid (∀ j, j < k → nowB l[j]! = false) ∧ Hid (wr.ownsRow w.heap.size 77 3 v k ((oldL l k).flatMap mkC)) ∧ Hid (BX 38 w #[.slice EA en ec, .slice TA tn tc] wr)) (fun _ i _ => l.length - (intOf i).toNat)
    case atStart => exact ⟨0, Nat.zero_le _, rfl, Lib.hid (fun j hj => absurd hj (Nat.not_lt_zero _)), V4, B4⟩
    case round =>
      clear B4 V4
      obtain ⟨k, hk, rfl, HP, HV, HB⟩ := hrel
      by_cases hlt : k < l.length
      · obtain ⟨b, off, rfl, hb, hc⟩ := HR.out.at_ (k := 3) (fun _ => rfl) (by omega) hlt
        have k0 := hc 0 _ rfl
        have k1 := hc 1 _ rfl
        have k2 := hc 2 _ rfl
        rw [Nat.add_zero] at k0
        rw [← HB.out.b.cell (p := ⟨b, _, none⟩) hb] at k0 k1 k2
        have hz := HB.out.lt
        have hbz : b < wr.heap.size := by omega
        obtain ⟨va, vc, rfl⟩ := own_slice HV.out
        cases hy : nowB l[k]! with
        | true =>
          have e1 := Lib.hid (tick_hit HF.out hlt hy)
          generalize l[k]! = x at *
          obtain ⟨xi, xa, xd⟩ := x
          unfold nowB at hy
          simp only [Bool.and_eq_true, decide_eq_true_eq] at hy
          obtain ⟨rfl, rfl⟩ := hy
          have HBx := Lib.hid (HB.out.alloc (.cells #[.bool true, .int .i64 xa, .int .i64 0] 77))
          simp only at k0 k1 k2
          clear hc HP
          go_wp2_with fail
          go_ret2
          exact ⟨HBx.out.b, _, by rw [e1.out]; rfl, fun h => absurd (e1.out.symm.trans h) (by decide), fun _ => rfl⟩
        | false =>
          have HP3 := Lib.hid (all_step HP.out hy)
          have HN := Lib.hid (oldL_next hlt)
          have hs := oldL_len (Nat.le_of_lt hlt)
          obtain ⟨g1, g2, g3, g4⟩ := bey_iff.1 (fits_at HF.out (mem_at hlt))
          generalize l[k]! = x at *
          obtain ⟨inn, age, due⟩ := x
          simp only at k0 k1 k2 g1 g2 g3 g4
          unfold nowB at hy
          simp only at hy
          clear hc HP
          have hcase : (¬ 0 ≤ age) ∨ (0 ≤ age ∧ age < 65536) ∨ (age = 65536) := by omega
          rcases hcase with h0 | h0 | h0
          · have E := fun d2 hd => Lib.hid (old_eq (inn := inn) (i2 := inn) (age := age) (due := due) (a2 := age) (d2 := d2) rfl (by rw [if_neg h0]) hd)
            cases inn with
            | false =>
              rw [← (E due (by simp)).out] at HN
              clear E
              have HX3 := Lib.hid ((HB.out.alloc (.cells #[.bool false, .int .i64 age, .int .i64 due] 77)).alloc (.cells #[.bool false, .int .i64 age, .int .i64 due] 77))
              have HV3 := Lib.hid ((HV.out.alloc (.cells #[.bool false, .int .i64 age, .int .i64 due] 77)).alloc (.cells #[.bool false, .int .i64 age, .int .i64 due] 77))
              have hn := heap_new (wr.alloc (.cells #[.bool false, .int .i64 age, .int .i64 due] 77)) (.cells #[.bool false, .int .i64 age, .int .i64 due] 77)
              rw [World.size_alloc] at hn
              have HN3 := Lib.hid hn
              clear hn HV HB
              go_wp2_with (at_builtin; refine wpList_append_own _ rfl (.tmp 59) (.tmp 61) 57 rfl w.heap.size 77 i0 _ 3 24 Try.underlying57 HI.out HZ0.out HZ1.out HZ2.out rfl (by omega) _ _ _ rfl HV3.out ⟨wr.heap.size + 1, 0, none⟩ 1 1 (mkC ⟨false, age, due⟩) rfl rfl ?c1 ?c2 ?c3 ?c4 ?c5 ?_)
              case c1 =>
                intro j u hj
                match j, hj with
                | 0, hj => cases hj; first | exact cell_blk HN3.out rfl | simp
                | 1, hj => cases hj; first | exact cell_blk HN3.out rfl | simp
                | 2, hj => cases hj; first | exact cell_blk HN3.out rfl | simp
              case c2 => exact one_mk _
              case c3 => unfold maxLen; omega
              case c4 => omega
              case c5 => first | exact Nat.le_of_lt HX3.out.lt | omega
              intro v' w4 hown' hgrow _
              have HB4 : Hid (BX 38 w #[.slice EA en ec, .slice TA tn tc] w4) := Lib.hid ⟨HX3.out.b.grown hgrow (Nat.le_of_lt HX3.out.lt) (fun j hj => (HV3.out.lt j hj).1), (hgrow.block _ HX3.out.lt (fun e => own_far HV3.out HX3.out.f (by decide) e.symm)).trans HX3.out.f⟩
              have HV4 : Hid (w4.ownsRow w.heap.size 77 3 v' (k + 1) ((oldL l (k + 1)).flatMap mkC)) := Lib.hid (by
                rw [HN.out, List.flatMap_append]
                have e8 : List.flatMap mkC [⟨false, age, due⟩] = mkC ⟨false, age, due⟩ := by simp
                rw [e8]; exact hown')
              clear hown' hgrow HX3 HV3 HN3 HN
              go_wp2_with fail
              go_roundw
              case rel => exact ⟨k + 1, hlt, by go_num, HP3, HV4, HB4⟩
              case measure => simp [intOf]; omega
            | true =>
              have hd0 : due ≠ 0 := by rw [Bool.true_and, decide_eq_false_iff_not] at hy; exact hy
              clear hy
              by_cases hd : 0 < due
              · by_cases hd5 : due < 1048576
                · rw [← (E (due - 1) (by rw [if_pos (by simp; omega)])).out] at HN
                  clear E
                  have HX3 := Lib.hid ((HB.out.alloc (.cells #[.bool true, .int .i64 age, .int .i64 (due - 1)] 77)).alloc (.cells #[.bool true, .int .i64 age, .int .i64 (due - 1)] 77))
                  have HV3 := Lib.hid ((HV.out.alloc (.cells #[.bool true, .int .i64 age, .int .i64 (due - 1)] 77)).alloc (.cells #[.bool true, .int .i64 age, .int .i64 (due - 1)] 77))
                  have hn := heap_new (wr.alloc (.cells #[.bool true, .int .i64 age, .int .i64 (due - 1)] 77)) (.cells #[.bool true, .int .i64 age, .int .i64 (due - 1)] 77)
                  rw [World.size_alloc] at hn
                  have HN3 := Lib.hid hn
                  clear hn HV HB
                  go_wp2_with (at_builtin; refine wpList_append_own _ rfl (.tmp 59) (.tmp 61) 57 rfl w.heap.size 77 i0 _ 3 24 Try.underlying57 HI.out HZ0.out HZ1.out HZ2.out rfl (by omega) _ _ _ rfl HV3.out ⟨wr.heap.size + 1, 0, none⟩ 1 1 (mkC ⟨true, age, (due - 1)⟩) rfl rfl ?c1 ?c2 ?c3 ?c4 ?c5 ?_)
                  case c1 =>
                    intro j u hj
                    match j, hj with
                    | 0, hj => cases hj; first | exact cell_blk HN3.out rfl | simp
                    | 1, hj => cases hj; first | exact cell_blk HN3.out rfl | simp
                    | 2, hj => cases hj; first | exact cell_blk HN3.out rfl | simp
                  case c2 => exact one_mk _
                  case c3 => unfold maxLen; omega
                  case c4 => omega
                  case c5 => first | exact Nat.le_of_lt HX3.out.lt | omega
                  intro v' w4 hown' hgrow _
                  have HB4 : Hid (BX 38 w #[.slice EA en ec, .slice TA tn tc] w4) := Lib.hid ⟨HX3.out.b.grown hgrow (Nat.le_of_lt HX3.out.lt) (fun j hj => (HV3.out.lt j hj).1), (hgrow.block _ HX3.out.lt (fun e => own_far HV3.out HX3.out.f (by decide) e.symm)).trans HX3.out.f⟩
                  have HV4 : Hid (w4.ownsRow w.heap.size 77 3 v' (k + 1) ((oldL l (k + 1)).flatMap mkC)) := Lib.hid (by
                    rw [HN.out, List.flatMap_append]
                    have e8 : List.flatMap mkC [⟨true, age, (due - 1)⟩] = mkC ⟨true, age, (due - 1)⟩ := by simp
                    rw [e8]; exact hown')
                  clear hown' hgrow HX3 HV3 HN3 HN
                  go_wp2_with fail
                  go_roundw
                  case rel => exact ⟨k + 1, hlt, by go_num, HP3, HV4, HB4⟩
                  case measure => simp [intOf]; omega
                · rw [← (E due (by rw [if_neg (by simp; omega)])).out] at HN
                  clear E
                  have HX3 := Lib.hid ((HB.out.alloc (.cells #[.bool true, .int .i64 age, .int .i64 due] 77)).alloc (.cells #[.bool true, .int .i64 age, .int .i64 due] 77))
                  have HV3 := Lib.hid ((HV.out.alloc (.cells #[.bool true, .int .i64 age, .int .i64 due] 77)).alloc (.cells #[.bool true, .int .i64 age, .int .i64 due] 77))
                  have hn := heap_new (wr.alloc (.cells #[.bool true, .int .i64 age, .int .i64 due] 77)) (.cells #[.bool true, .int .i64 age, .int .i64 due] 77)
                  rw [World.size_alloc] at hn
                  have HN3 := Lib.hid hn
                  clear hn HV HB
                  go_wp2_with (at_builtin; refine wpList_append_own _ rfl (.tmp 59) (.tmp 61) 57 rfl w.heap.size 77 i0 _ 3 24 Try.underlying57 HI.out HZ0.out HZ1.out HZ2.out rfl (by omega) _ _ _ rfl HV3.out ⟨wr.heap.size + 1, 0, none⟩ 1 1 (mkC ⟨true, age, due⟩) rfl rfl ?c1 ?c2 ?c3 ?c4 ?c5 ?_)
                  case c1 =>
                    intro j u hj
                    match j, hj with
                    | 0, hj => cases hj; first | exact cell_blk HN3.out rfl | simp
                    | 1, hj => cases hj; first | exact cell_blk HN3.out rfl | simp
                    | 2, hj => cases hj; first | exact cell_blk HN3.out rfl | simp
                  case c2 => exact one_mk _
                  case c3 => unfold maxLen; omega
                  case c4 => omega
                  case c5 => first | exact Nat.le_of_lt HX3.out.lt | omega
                  intro v' w4 hown' hgrow _
                  have HB4 : Hid (BX 38 w #[.slice EA en ec, .slice TA tn tc] w4) := Lib.hid ⟨HX3.out.b.grown hgrow (Nat.le_of_lt HX3.out.lt) (fun j hj => (HV3.out.lt j hj).1), (hgrow.block _ HX3.out.lt (fun e => own_far HV3.out HX3.out.f (by decide) e.symm)).trans HX3.out.f⟩
                  have HV4 : Hid (w4.ownsRow w.heap.size 77 3 v' (k + 1) ((oldL l (k + 1)).flatMap mkC)) := Lib.hid (by
                    rw [HN.out, List.flatMap_append]
                    have e8 : List.flatMap mkC [⟨true, age, due⟩] = mkC ⟨true, age, due⟩ := by simp
                    rw [e8]; exact hown')
                  clear hown' hgrow HX3 HV3 HN3 HN
                  go_wp2_with fail
                  go_roundw
                  case rel => exact ⟨k + 1, hlt, by go_num, HP3, HV4, HB4⟩
                  case measure => simp [intOf]; omega
              · rw [← (E due (by rw [if_neg (by simp; omega)])).out] at HN
                clear E
                have HX3 := Lib.hid ((HB.out.alloc (.cells #[.bool true, .int .i64 age, .int .i64 due] 77)).alloc (.cells #[.bool true, .int .i64 age, .int .i64 due] 77))
                have HV3 := Lib.hid ((HV.out.alloc (.cells #[.bool true, .int .i64 age, .int .i64 due] 77)).alloc (.cells #[.bool true, .int .i64 age, .int .i64 due] 77))
                have hn := heap_new (wr.alloc (.cells #[.bool true, .int .i64 age, .int .i64 due] 77)) (.cells #[.bool true, .int .i64 age, .int .i64 due] 77)
                rw [World.size_alloc] at hn
                have HN3 := Lib.hid hn
                clear hn HV HB
                go_wp2_with (at_builtin; refine wpList_append_own _ rfl (.tmp 59) (.tmp 61) 57 rfl w.heap.size 77 i0 _ 3 24 Try.underlying57 HI.out HZ0.out HZ1.out HZ2.out rfl (by omega) _ _ _ rfl HV3.out ⟨wr.heap.size + 1, 0, none⟩ 1 1 (mkC ⟨true, age, due⟩) rfl rfl ?c1 ?c2 ?c3 ?c4 ?c5 ?_)
                case c1 =>
                  intro j u hj
                  match j, hj with
                  | 0, hj => cases hj; first | exact cell_blk HN3.out rfl | simp
                  | 1, hj => cases hj; first | exact cell_blk HN3.out rfl | simp
                  | 2, hj => cases hj; first | exact cell_blk HN3.out rfl | simp
                case c2 => exact one_mk _
                case c3 => unfold maxLen; omega
                case c4 => omega
                case c5 => first | exact Nat.le_of_lt HX3.out.lt | omega
                intro v' w4 hown' hgrow _
                have HB4 : Hid (BX 38 w #[.slice EA en ec, .slice TA tn tc] w4) := Lib.hid ⟨HX3.out.b.grown hgrow (Nat.le_of_lt HX3.out.lt) (fun j hj => (HV3.out.lt j hj).1), (hgrow.block _ HX3.out.lt (fun e => own_far HV3.out HX3.out.f (by decide) e.symm)).trans HX3.out.f⟩
                have HV4 : Hid (w4.ownsRow w.heap.size 77 3 v' (k + 1) ((oldL l (k + 1)).flatMap mkC)) := Lib.hid (by
                  rw [HN.out, List.flatMap_append]
                  have e8 : List.flatMap mkC [⟨true, age, due⟩] = mkC ⟨true, age, due⟩ := by simp
                  rw [e8]; exact hown')
                clear hown' hgrow HX3 HV3 HN3 HN
                go_wp2_with fail
                go_roundw
                case rel => exact ⟨k + 1, hlt, by go_num, HP3, HV4, HB4⟩
                case measure => simp [intOf]; omega
          · obtain ⟨h0, ht⟩ := h0
            have E := fun d2 hd => Lib.hid (old_eq (inn := inn) (i2 := inn) (age := age) (due := due) (a2 := (age + 1)) (d2 := d2) rfl (by rw [if_pos h0]; omega) hd)
            cases inn with
            | false =>
              rw [← (E due (by simp)).out] at HN
              clear E
              have HX3 := Lib.hid ((HB.out.alloc (.cells #[.bool false, .int .i64 (age + 1), .int .i64 due] 77)).alloc (.cells #[.bool false, .int .i64 (age + 1), .int .i64 due] 77))
              have HV3 := Lib.hid ((HV.out.alloc (.cells #[.bool false, .int .i64 (age + 1), .int .i64 due] 77)).alloc (.cells #[.bool false, .int .i64 (age + 1), .int .i64 due] 77))
              have hn := heap_new (wr.alloc (.cells #[.bool false, .int .i64 (age + 1), .int .i64 due] 77)) (.cells #[.bool false, .int .i64 (age + 1), .int .i64 due] 77)
              rw [World.size_alloc] at hn
              have HN3 := Lib.hid hn
              clear hn HV HB
              go_wp2_with (at_builtin; refine wpList_append_own _ rfl (.tmp 59) (.tmp 61) 57 rfl w.heap.size 77 i0 _ 3 24 Try.underlying57 HI.out HZ0.out HZ1.out HZ2.out rfl (by omega) _ _ _ rfl HV3.out ⟨wr.heap.size + 1, 0, none⟩ 1 1 (mkC ⟨false, (age + 1), due⟩) rfl rfl ?c1 ?c2 ?c3 ?c4 ?c5 ?_)
              case c1 =>
                intro j u hj
                match j, hj with
                | 0, hj => cases hj; first | exact cell_blk HN3.out rfl | simp
                | 1, hj => cases hj; first | exact cell_blk HN3.out rfl | simp
                | 2, hj => cases hj; first | exact cell_blk HN3.out rfl | simp
              case c2 => exact one_mk _
              case c3 => unfold maxLen; omega
              case c4 => omega
              case c5 => first | exact Nat.le_of_lt HX3.out.lt | omega
              intro v' w4 hown' hgrow _
              have HB4 : Hid (BX 38 w #[.slice EA en ec, .slice TA tn tc] w4) := Lib.hid ⟨HX3.out.b.grown hgrow (Nat.le_of_lt HX3.out.lt) (fun j hj => (HV3.out.lt j hj).1), (hgrow.block _ HX3.out.lt (fun e => own_far HV3.out HX3.out.f (by decide) e.symm)).trans HX3.out.f⟩
              have HV4 : Hid (w4.ownsRow w.heap.size 77 3 v' (k + 1) ((oldL l (k + 1)).flatMap mkC)) := Lib.hid (by
                rw [HN.out, List.flatMap_append]
                have e8 : List.flatMap mkC [⟨false, (age + 1), due⟩] = mkC ⟨false, (age + 1), due⟩ := by simp
                rw [e8]; exact hown')
              clear hown' hgrow HX3 HV3 HN3 HN
              go_wp2_with fail
              go_roundw
              case rel => exact ⟨k + 1, hlt, by go_num, HP3, HV4, HB4⟩
              case measure => simp [intOf]; omega
            | true =>
              have hd0 : due ≠ 0 := by rw [Bool.true_and, decide_eq_false_iff_not] at hy; exact hy
              clear hy
              by_cases hd : 0 < due
              · by_cases hd5 : due < 1048576
                · rw [← (E (due - 1) (by rw [if_pos (by simp; omega)])).out] at HN
                  clear E
                  have HX3 := Lib.hid ((HB.out.alloc (.cells #[.bool true, .int .i64 (age + 1), .int .i64 (due - 1)] 77)).alloc (.cells #[.bool true, .int .i64 (age + 1), .int .i64 (due - 1)] 77))
                  have HV3 := Lib.hid ((HV.out.alloc (.cells #[.bool true, .int .i64 (age + 1), .int .i64 (due - 1)] 77)).alloc (.cells #[.bool true, .int .i64 (age + 1), .int .i64 (due - 1)] 77))
                  have hn := heap_new (wr.alloc (.cells #[.bool true, .int .i64 (age + 1), .int .i64 (due - 1)] 77)) (.cells #[.bool true, .int .i64 (age + 1), .int .i64 (due - 1)] 77)
                  rw [World.size_alloc] at hn
                  have HN3 := Lib.hid hn
                  clear hn HV HB
                  go_wp2_with (at_builtin; refine wpList_append_own _ rfl (.tmp 59) (.tmp 61) 57 rfl w.heap.size 77 i0 _ 3 24 Try.underlying57 HI.out HZ0.out HZ1.out HZ2.out rfl (by omega) _ _ _ rfl HV3.out ⟨wr.heap.size + 1, 0, none⟩ 1 1 (mkC ⟨true, (age + 1), (due - 1)⟩) rfl rfl ?c1 ?c2 ?c3 ?c4 ?c5 ?_)
                  case c1 =>
                    intro j u hj
                    match j, hj with
                    | 0, hj => cases hj; first | exact cell_blk HN3.out rfl | simp
                    | 1, hj => cases hj; first | exact cell_blk HN3.out rfl | simp
                    | 2, hj => cases hj; first | exact cell_blk HN3.out rfl | simp
                  case c2 => exact one_mk _
                  case c3 => unfold maxLen; omega
                  case c4 => omega
                  case c5 => first | exact Nat.le_of_lt HX3.out.lt | omega
                  intro v' w4 hown' hgrow _
                  have HB4 : Hid (BX 38 w #[.slice EA en ec, .slice TA tn tc] w4) := Lib.hid ⟨HX3.out.b.grown hgrow (Nat.le_of_lt HX3.out.lt) (fun j hj => (HV3.out.lt j hj).1), (hgrow.block _ HX3.out.lt (fun e => own_far HV3.out HX3.out.f (by decide) e.symm)).trans HX3.out.f⟩
                  have HV4 : Hid (w4.ownsRow w.heap.size 77 3 v' (k + 1) ((oldL l (k + 1)).flatMap mkC)) := Lib.hid (by
                    rw [HN.out, List.flatMap_append]
                    have e8 : List.flatMap mkC [⟨true, (age + 1), (due - 1)⟩] = mkC ⟨true, (age + 1), (due - 1)⟩ := by simp
                    rw [e8]; exact hown')
                  clear hown' hgrow HX3 HV3 HN3 HN
                  go_wp2_with fail
                  go_roundw
                  case rel => exact ⟨k + 1, hlt, by go_num, HP3, HV4, HB4⟩
                  case measure => simp [intOf]; omega
                · rw [← (E due (by rw [if_neg (by simp; omega)])).out] at HN
                  clear E
                  have HX3 := Lib.hid ((HB.out.alloc (.cells #[.bool true, .int .i64 (age + 1), .int .i64 due] 77)).alloc (.cells #[.bool true, .int .i64 (age + 1), .int .i64 due] 77))
                  have HV3 := Lib.hid ((HV.out.alloc (.cells #[.bool true, .int .i64 (age + 1), .int .i64 due] 77)).alloc (.cells #[.bool true, .int .i64 (age + 1), .int .i64 due] 77))
                  have hn := heap_new (wr.alloc (.cells #[.bool true, .int .i64 (age + 1), .int .i64 due] 77)) (.cells #[.bool true, .int .i64 (age + 1), .int .i64 due] 77)
                  rw [World.size_alloc] at hn
                  have HN3 := Lib.hid hn
                  clear hn HV HB
                  go_wp2_with (at_builtin; refine wpList_append_own _ rfl (.tmp 59) (.tmp 61) 57 rfl w.heap.size 77 i0 _ 3 24 Try.underlying57 HI.out HZ0.out HZ1.out HZ2.out rfl (by omega) _ _ _ rfl HV3.out ⟨wr.heap.size + 1, 0, none⟩ 1 1 (mkC ⟨true, (age + 1), due⟩) rfl rfl ?c1 ?c2 ?c3 ?c4 ?c5 ?_)
                  case c1 =>
                    intro j u hj
                    match j, hj with
                    | 0, hj => cases hj; first | exact cell_blk HN3.out rfl | simp
                    | 1, hj => cases hj; first | exact cell_blk HN3.out rfl | simp
                    | 2, hj => cases hj; first | exact cell_blk HN3.out rfl | simp
                  case c2 => exact one_mk _
                  case c3 => unfold maxLen; omega
                  case c4 => omega
                  case c5 => first | exact Nat.le_of_lt HX3.out.lt | omega
                  intro v' w4 hown' hgrow _
                  have HB4 : Hid (BX 38 w #[.slice EA en ec, .slice TA tn tc] w4) := Lib.hid ⟨HX3.out.b.grown hgrow (Nat.le_of_lt HX3.out.lt) (fun j hj => (HV3.out.lt j hj).1), (hgrow.block _ HX3.out.lt (fun e => own_far HV3.out HX3.out.f (by decide) e.symm)).trans HX3.out.f⟩
                  have HV4 : Hid (w4.ownsRow w.heap.size 77 3 v' (k + 1) ((oldL l (k + 1)).flatMap mkC)) := Lib.hid (by
                    rw [HN.out, List.flatMap_append]
                    have e8 : List.flatMap mkC [⟨true, (age + 1), due⟩] = mkC ⟨true, (age + 1), due⟩ := by simp
                    rw [e8]; exact hown')
                  clear hown' hgrow HX3 HV3 HN3 HN
                  go_wp2_with fail
                  go_roundw
                  case rel => exact ⟨k + 1, hlt, by go_num, HP3, HV4, HB4⟩
                  case measure => simp [intOf]; omega
              · rw [← (E due (by rw [if_neg (by simp; omega)])).out] at HN
                clear E
                have HX3 := Lib.hid ((HB.out.alloc (.cells #[.bool true, .int .i64 (age + 1), .int .i64 due] 77)).alloc (.cells #[.bool true, .int .i64 (age + 1), .int .i64 due] 77))
                have HV3 := Lib.hid ((HV.out.alloc (.cells #[.bool true, .int .i64 (age + 1), .int .i64 due] 77)).alloc (.cells #[.bool true, .int .i64 (age + 1), .int .i64 due] 77))
                have hn := heap_new (wr.alloc (.cells #[.bool true, .int .i64 (age + 1), .int .i64 due] 77)) (.cells #[.bool true, .int .i64 (age + 1), .int .i64 due] 77)
                rw [World.size_alloc] at hn
                have HN3 := Lib.hid hn
                clear hn HV HB
                go_wp2_with (at_builtin; refine wpList_append_own _ rfl (.tmp 59) (.tmp 61) 57 rfl w.heap.size 77 i0 _ 3 24 Try.underlying57 HI.out HZ0.out HZ1.out HZ2.out rfl (by omega) _ _ _ rfl HV3.out ⟨wr.heap.size + 1, 0, none⟩ 1 1 (mkC ⟨true, (age + 1), due⟩) rfl rfl ?c1 ?c2 ?c3 ?c4 ?c5 ?_)
                case c1 =>
                  intro j u hj
                  match j, hj with
                  | 0, hj => cases hj; first | exact cell_blk HN3.out rfl | simp
                  | 1, hj => cases hj; first | exact cell_blk HN3.out rfl | simp
                  | 2, hj => cases hj; first | exact cell_blk HN3.out rfl | simp
                case c2 => exact one_mk _
                case c3 => unfold maxLen; omega
                case c4 => omega
                case c5 => first | exact Nat.le_of_lt HX3.out.lt | omega
                intro v' w4 hown' hgrow _
                have HB4 : Hid (BX 38 w #[.slice EA en ec, .slice TA tn tc] w4) := Lib.hid ⟨HX3.out.b.grown hgrow (Nat.le_of_lt HX3.out.lt) (fun j hj => (HV3.out.lt j hj).1), (hgrow.block _ HX3.out.lt (fun e => own_far HV3.out HX3.out.f (by decide) e.symm)).trans HX3.out.f⟩
                have HV4 : Hid (w4.ownsRow w.heap.size 77 3 v' (k + 1) ((oldL l (k + 1)).flatMap mkC)) := Lib.hid (by
                  rw [HN.out, List.flatMap_append]
                  have e8 : List.flatMap mkC [⟨true, (age + 1), due⟩] = mkC ⟨true, (age + 1), due⟩ := by simp
                  rw [e8]; exact hown')
                clear hown' hgrow HX3 HV3 HN3 HN
                go_wp2_with fail
                go_roundw
                case rel => exact ⟨k + 1, hlt, by go_num, HP3, HV4, HB4⟩
                case measure => simp [intOf]; omega
          · subst h0
            have E := fun d2 hd => Lib.hid (old_eq (inn := inn) (i2 := inn) (age := 65536) (due := due) (a2 := 65536) (d2 := d2) rfl (by decide) hd)
            cases inn with
            | false =>
              rw [← (E due (by simp)).out] at HN
              clear E
              have HX3 := Lib.hid ((HB.out.alloc (.cells #[.bool false, .int .i64 65536, .int .i64 due] 77)).alloc (.cells #[.bool false, .int .i64 65536, .int .i64 due] 77))
              have HV3 := Lib.hid ((HV.out.alloc (.cells #[.bool false, .int .i64 65536, .int .i64 due] 77)).alloc (.cells #[.bool false, .int .i64 65536, .int .i64 due] 77))
              have hn := heap_new (wr.alloc (.cells #[.bool false, .int .i64 65536, .int .i64 due] 77)) (.cells #[.bool false, .int .i64 65536, .int .i64 due] 77)
              rw [World.size_alloc] at hn
              have HN3 := Lib.hid hn
              clear hn HV HB
              go_wp2_with (at_builtin; refine wpList_append_own _ rfl (.tmp 59) (.tmp 61) 57 rfl w.heap.size 77 i0 _ 3 24 Try.underlying57 HI.out HZ0.out HZ1.out HZ2.out rfl (by omega) _ _ _ rfl HV3.out ⟨wr.heap.size + 1, 0, none⟩ 1 1 (mkC ⟨false, 65536, due⟩) rfl rfl ?c1 ?c2 ?c3 ?c4 ?c5 ?_)
              case c1 =>
                intro j u hj
                match j, hj with
                | 0, hj => cases hj; first | exact cell_blk HN3.out rfl | simp
                | 1, hj => cases hj; first | exact cell_blk HN3.out rfl | simp
                | 2, hj => cases hj; first | exact cell_blk HN3.out rfl | simp
              case c2 => exact one_mk _
              case c3 => unfold maxLen; omega
              case c4 => omega
              case c5 => first | exact Nat.le_of_lt HX3.out.lt | omega
              intro v' w4 hown' hgrow _
              have HB4 : Hid (BX 38 w #[.slice EA en ec, .slice TA tn tc] w4) := Lib.hid ⟨HX3.out.b.grown hgrow (Nat.le_of_lt HX3.out.lt) (fun j hj => (HV3.out.lt j hj).1), (hgrow.block _ HX3.out.lt (fun e => own_far HV3.out HX3.out.f (by decide) e.symm)).trans HX3.out.f⟩
              have HV4 : Hid (w4.ownsRow w.heap.size 77 3 v' (k + 1) ((oldL l (k + 1)).flatMap mkC)) := Lib.hid (by
                rw [HN.out, List.flatMap_append]
                have e8 : List.flatMap mkC [⟨false, 65536, due⟩] = mkC ⟨false, 65536, due⟩ := by simp
                rw [e8]; exact hown')
              clear hown' hgrow HX3 HV3 HN3 HN
              go_wp2_with fail
              go_roundw
              case rel => exact ⟨k + 1, hlt, by go_num, HP3, HV4, HB4⟩
              case measure => simp [intOf]; omega
            | true =>
              have hd0 : due ≠ 0 := by rw [Bool.true_and, decide_eq_false_iff_not] at hy; exact hy
              clear hy
              by_cases hd : 0 < due
              · by_cases hd5 : due < 1048576
                · rw [← (E (due - 1) (by rw [if_pos (by simp; omega)])).out] at HN
                  clear E
                  have HX3 := Lib.hid ((HB.out.alloc (.cells #[.bool true, .int .i64 65536, .int .i64 (due - 1)] 77)).alloc (.cells #[.bool true, .int .i64 65536, .int .i64 (due - 1)] 77))
                  have HV3 := Lib.hid ((HV.out.alloc (.cells #[.bool true, .int .i64 65536, .int .i64 (due - 1)] 77)).alloc (.cells #[.bool true, .int .i64 65536, .int .i64 (due - 1)] 77))
                  have hn := heap_new (wr.alloc (.cells #[.bool true, .int .i64 65536, .int .i64 (due - 1)] 77)) (.cells #[.bool true, .int .i64 65536, .int .i64 (due - 1)] 77)
                  rw [World.size_alloc] at hn
                  have HN3 := Lib.hid hn
                  clear hn HV HB
                  go_wp2_with (at_builtin; refine wpList_append_own _ rfl (.tmp 59) (.tmp 61) 57 rfl w.heap.size 77 i0 _ 3 24 Try.underlying57 HI.out HZ0.out HZ1.out HZ2.out rfl (by omega) _ _ _ rfl HV3.out ⟨wr.heap.size + 1, 0, none⟩ 1 1 (mkC ⟨true, 65536, (due - 1)⟩) rfl rfl ?c1 ?c2 ?c3 ?c4 ?c5 ?_)
                  case c1 =>
                    intro j u hj
                    match j, hj with
                    | 0, hj => cases hj; first | exact cell_blk HN3.out rfl | simp
                    | 1, hj => cases hj; first | exact cell_blk HN3.out rfl | simp
                    | 2, hj => cases hj; first | exact cell_blk HN3.out rfl | simp
                  case c2 => exact one_mk _
                  case c3 => unfold maxLen; omega
                  case c4 => omega
                  case c5 => first | exact Nat.le_of_lt HX3.out.lt | omega
                  intro v' w4 hown' hgrow _
                  have HB4 : Hid (BX 38 w #[.slice EA en ec, .slice TA tn tc] w4) := Lib.hid ⟨HX3.out.b.grown hgrow (Nat.le_of_lt HX3.out.lt) (fun j hj => (HV3.out.lt j hj).1), (hgrow.block _ HX3.out.lt (fun e => own_far HV3.out HX3.out.f (by decide) e.symm)).trans HX3.out.f⟩
                  have HV4 : Hid (w4.ownsRow w.heap.size 77 3 v' (k + 1) ((oldL l (k + 1)).flatMap mkC)) := Lib.hid (by
                    rw [HN.out, List.flatMap_append]
                    have e8 : List.flatMap mkC [⟨true, 65536, (due - 1)⟩] = mkC ⟨true, 65536, (due - 1)⟩ := by simp
                    rw [e8]; exact hown')
                  clear hown' hgrow HX3 HV3 HN3 HN
                  go_wp2_with fail
                  go_roundw
                  case rel => exact ⟨k + 1, hlt, by go_num, HP3, HV4, HB4⟩
                  case measure => simp [intOf]; omega
                · rw [← (E due (by rw [if_neg (by simp; omega)])).out] at HN
                  clear E
                  have HX3 := Lib.hid ((HB.out.alloc (.cells #[.bool true, .int .i64 65536, .int .i64 due] 77)).alloc (.cells #[.bool true, .int .i64 65536, .int .i64 due] 77))
                  have HV3 := Lib.hid ((HV.out.alloc (.cells #[.bool true, .int .i64 65536, .int .i64 due] 77)).alloc (.cells #[.bool true, .int .i64 65536, .int .i64 due] 77))
                  have hn := heap_new (wr.alloc (.cells #[.bool true, .int .i64 65536, .int .i64 due] 77)) (.cells #[.bool true, .int .i64 65536, .int .i64 due] 77)
                  rw [World.size_alloc] at hn
                  have HN3 := Lib.hid hn
                  clear hn HV HB
                  go_wp2_with (at_builtin; refine wpList_append_own _ rfl (.tmp 59) (.tmp 61) 57 rfl w.heap.size 77 i0 _ 3 24 Try.underlying57 HI.out HZ0.out HZ1.out HZ2.out rfl (by omega) _ _ _ rfl HV3.out ⟨wr.heap.size + 1, 0, none⟩ 1 1 (mkC ⟨true, 65536, due⟩) rfl rfl ?c1 ?c2 ?c3 ?c4 ?c5 ?_)
                  case c1 =>
                    intro j u hj
                    match j, hj with
                    | 0, hj => cases hj; first | exact cell_blk HN3.out rfl | simp
                    | 1, hj => cases hj; first | exact cell_blk HN3.out rfl | simp
                    | 2, hj => cases hj; first | exact cell_blk HN3.out rfl | simp
                  case c2 => exact one_mk _
                  case c3 => unfold maxLen; omega
                  case c4 => omega
                  case c5 => first | exact Nat.le_of_lt HX3.out.lt | omega
                  intro v' w4 hown' hgrow _
                  have HB4 : Hid (BX 38 w #[.slice EA en ec, .slice TA tn tc] w4) := Lib.hid ⟨HX3.out.b.grown hgrow (Nat.le_of_lt HX3.out.lt) (fun j hj => (HV3.out.lt j hj).1), (hgrow.block _ HX3.out.lt (fun e => own_far HV3.out HX3.out.f (by decide) e.symm)).trans HX3.out.f⟩
                  have HV4 : Hid (w4.ownsRow w.heap.size 77 3 v' (k + 1) ((oldL l (k + 1)).flatMap mkC)) := Lib.hid (by
                    rw [HN.out, List.flatMap_append]
                    have e8 : List.flatMap mkC [⟨true, 65536, due⟩] = mkC ⟨true, 65536, due⟩ := by simp
                    rw [e8]; exact hown')
                  clear hown' hgrow HX3 HV3 HN3 HN
                  go_wp2_with fail
                  go_roundw
                  case rel => exact ⟨k + 1, hlt, by go_num, HP3, HV4, HB4⟩
                  case measure => simp [intOf]; omega
              · rw [← (E due (by rw [if_neg (by simp; omega)])).out] at HN
                clear E
                have HX3 := Lib.hid ((HB.out.alloc (.cells #[.bool true, .int .i64 65536, .int .i64 due] 77)).alloc (.cells #[.bool true, .int .i64 65536, .int .i64 due] 77))
                have HV3 := Lib.hid ((HV.out.alloc (.cells #[.bool true, .int .i64 65536, .int .i64 due] 77)).alloc (.cells #[.bool true, .int .i64 65536, .int .i64 due] 77))
                have hn := heap_new (wr.alloc (.cells #[.bool true, .int .i64 65536, .int .i64 due] 77)) (.cells #[.bool true, .int .i64 65536, .int .i64 due] 77)
                rw [World.size_alloc] at hn
                have HN3 := Lib.hid hn
                clear hn HV HB
                go_wp2_with (at_builtin; refine wpList_append_own _ rfl (.tmp 59) (.tmp 61) 57 rfl w.heap.size 77 i0 _ 3 24 Try.underlying57 HI.out HZ0.out HZ1.out HZ2.out rfl (by omega) _ _ _ rfl HV3.out ⟨wr.heap.size + 1, 0, none⟩ 1 1 (mkC ⟨true, 65536, due⟩) rfl rfl ?c1 ?c2 ?c3 ?c4 ?c5 ?_)
                case c1 =>
                  intro j u hj
                  match j, hj with
                  | 0, hj => cases hj; first | exact cell_blk HN3.out rfl | simp
                  | 1, hj => cases hj; first | exact cell_blk HN3.out rfl | simp
                  | 2, hj => cases hj; first | exact cell_blk HN3.out rfl | simp
                case c2 => exact one_mk _
                case c3 => unfold maxLen; omega
                case c4 => omega
                case c5 => first | exact Nat.le_of_lt HX3.out.lt | omega
                intro v' w4 hown' hgrow _
                have HB4 : Hid (BX 38 w #[.slice EA en ec, .slice TA tn tc] w4) := Lib.hid ⟨HX3.out.b.grown hgrow (Nat.le_of_lt HX3.out.lt) (fun j hj => (HV3.out.lt j hj).1), (hgrow.block _ HX3.out.lt (fun e => own_far HV3.out HX3.out.f (by decide) e.symm)).trans HX3.out.f⟩
                have HV4 : Hid (w4.ownsRow w.heap.size 77 3 v' (k + 1) ((oldL l (k + 1)).flatMap mkC)) := Lib.hid (by
                  rw [HN.out, List.flatMap_append]
                  have e8 : List.flatMap mkC [⟨true, 65536, due⟩] = mkC ⟨true, 65536, due⟩ := by simp
                  rw [e8]; exact hown')
                clear hown' hgrow HX3 HV3 HN3 HN
                go_wp2_with fail
                go_roundw
                case rel => exact ⟨k + 1, hlt, by go_num, HP3, HV4, HB4⟩
                case measure => simp [intOf]; omega
      · obtain rfl : k = l.length := by omega
        have e1 := Lib.hid (tick_end HF.out HP.out)
        rw [oldL_all] at HV
        clear HP
        go_wp2_with fail
        go_ret2
        exact ⟨HB.out.b, _, by rw [e1.out]; rfl, fun _ => HV.out, fun h => absurd e1.out h⟩
end Go.Proofs.Ytplplkchibefjaa.M5
