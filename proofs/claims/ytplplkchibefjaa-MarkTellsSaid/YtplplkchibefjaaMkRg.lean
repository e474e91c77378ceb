/-
  Contract of the document's own Start.
-/
import Derived.Test.YtplplkchibefjaaMkRc
import Derived.Test.YtplplkchibefjaaMkG
namespace Go.Proofs.Ytplplkchibefjaa.M5
open Go.RowKit Go.Shelf Go.Proofs.Ytplplkchibefjaa.B

theorem start_eq {v : Ev} {a d : Int} (h1 : (if v.done then (0 : Int) else -1) = a) (h2 : min (max v.due (-1)) 1048576 = d) : startM v = ⟨v.inn, a, d⟩ := by
  unfold startM withI; rw [h1, h2]
set_option maxRecDepth 100000 in
set_option maxHeartbeats 8000000 in
theorem rstart_any (w : World) (EA TA : Option Addr) (ec tn tc : Nat) (es : List Ev) (he : Row w EA (es.flatMap evC)) (hel : es.length * 64 ≤ 140737488351232) :
    Calls Try.prog 40 #[.agg #[.slice EA es.length ec, .slice TA tn tc]] w fun e w' => ∃ v, e = .returned v ∧ w'.ownsRow w.heap.size 77 3 v es.length ((es.map startM).flatMap mkC) ∧ Below w.heap.size w w' := by
  obtain ⟨i0, hi, hz0, hz1, hz2⟩ := info_parts info_mk
  have HI := Lib.hid hi
  have HZ0 := Lib.hid hz0
  have HZ1 := Lib.hid hz1
  have HZ2 := Lib.hid hz2
  have B0 := Lib.hid (BX.start 38 w #[.slice EA es.length ec, .slice TA tn tc])
  have HR := Lib.hid he
  clear he hi hz0 hz1 hz2
  obtain ⟨w3, hw3⟩ : ∃ w3, w3 = w.alloc (.cells #[.slice EA es.length ec, .slice TA tn tc] 38) := ⟨_, rfl⟩
  rw [← hw3] at B0
  have hz3 := B0.out.lt
  have B4 := Lib.hid (B0.out.alloc (.cells #[] 77))
  have V4 : Hid ((w3.alloc (.cells #[] 77)).ownsRow w.heap.size 77 3 (.slice (some ⟨w3.heap.size, 0, none⟩) 0 0) 0 ((startL es 0).flatMap mkC)) := Lib.hid (own_empty (heap_new _ _) (Nat.le_of_lt hz3))
  rw [hw3] at B4 V4
  clear B0 hz3 hw3
  go_enter Try.func40, Try.ntmps40
  go_wp2_with fail
  go_loopw [3, 4] (fun v i wr => ∃ k : Nat, k ≤ es.length ∧ i = .int .i64 k ∧ Hid (wr.ownsRow w.heap.size 77 3 v k ((startL es k).flatMap mkC)) ∧ Hid (BX 38 w #[.slice EA es.length ec, .slice TA tn tc] wr)) (fun _ i _ => es.length - (intOf i).toNat)
  case atStart => exact ⟨0, Nat.zero_le _, rfl, by simpa using V4, B4⟩
  case round =>
    clear B4 V4
    obtain ⟨k, hk, rfl, HV, HB⟩ := hrel
    obtain ⟨c0, c1⟩ := HB.out.cells
    have ll := HB.out.lt
    by_cases hlt : k < es.length
    · obtain ⟨b, off, rfl, hb, hc⟩ := HR.out.at_ (k := 6) (fun _ => rfl) (by omega) hlt
      have k0 := hc 0 _ rfl
      have k1 := hc 1 _ rfl
      have k2 := hc 2 _ rfl
      have k3 := hc 3 _ rfl
      have k4 := hc 4 _ rfl
      have k5 := hc 5 _ rfl
      rw [Nat.add_zero] at k0
      rw [← HB.out.b.cell (p := ⟨b, _, none⟩) hb] at k0 k1 k2 k3 k4 k5
      have hbz : b < wr.heap.size := by omega
      obtain ⟨va, vc, rfl⟩ := own_slice HV.out
      have HN := Lib.hid (startL_next hlt)
      have hs := startL_len (Nat.le_of_lt hlt)
      generalize es[k]! = x at *
      have E := fun a d h1 h2 => Lib.hid (start_eq (v := x) (a := a) (d := d) h1 h2)
      clear hc
      obtain ⟨xn, xg, xr, inn, done, due⟩ := x
      simp only at k0 k1 k2 k3 k4 k5 E
      have hcase : due < -1 ∨ (-1 ≤ due ∧ due ≤ 1048576) ∨ 1048576 < due := by omega
      have HB1 := Lib.hid (HB.out.alloc (.cells #[.string xn, .string xg, .string xr, .bool inn, .bool done, .int .i64 due] 46))
      have HV1 := Lib.hid (HV.out.alloc (.cells #[.string xn, .string xg, .string xr, .bool inn, .bool done, .int .i64 due] 46))
      obtain ⟨w1, hw1⟩ : ∃ w1, w1 = wr.alloc (.cells #[.string xn, .string xg, .string xr, .bool inn, .bool done, .int .i64 due] 46) := ⟨_, rfl⟩
      rw [← hw1] at HB1 HV1
      have s1 : w1.heap.size = wr.heap.size + 1 := by rw [hw1, World.size_alloc]
      have HW1 := Lib.hid hw1
      clear hw1 HB HV
      cases done with
      | true =>
        rcases hcase with h0 | ⟨h0, h1⟩ | h0
        · rw [(E 0 (-1) rfl (by omega)).out] at HN
          clear E
          have HX3 := Lib.hid ((HB1.out.alloc (.cells #[.bool inn, .int .i64 0, .int .i64 (-1)] 77)).alloc (.cells #[.bool inn, .int .i64 0, .int .i64 (-1)] 77))
          have HV3 := Lib.hid ((HV1.out.alloc (.cells #[.bool inn, .int .i64 0, .int .i64 (-1)] 77)).alloc (.cells #[.bool inn, .int .i64 0, .int .i64 (-1)] 77))
          have hn := heap_new (w1.alloc (.cells #[.bool inn, .int .i64 0, .int .i64 (-1)] 77)) (.cells #[.bool inn, .int .i64 0, .int .i64 (-1)] 77)
          rw [World.size_alloc] at hn
          have HN3 := Lib.hid hn
          clear hn HV1 HB1
          go_wp2_with (at_builtin; (try rw [← HW1.out]); refine wpList_append_own _ rfl (.tmp 36) (.tmp 38) 57 rfl w.heap.size 77 i0 _ 3 24 Try.underlying57 HI.out HZ0.out HZ1.out HZ2.out rfl (by omega) _ _ _ rfl HV3.out ⟨w1.heap.size + 1, 0, none⟩ 1 1 (mkC ⟨inn, 0, (-1)⟩) (by rw [s1]; rfl) rfl ?c1 ?c2 ?c3 ?c4 ?c5 ?_)
          case c1 =>
            intro j u hj
            match j, hj with
            | 0, hj => cases hj; first | exact cell_blk HN3.out rfl | simp
            | 1, hj => cases hj; first | exact cell_blk HN3.out rfl | simp
            | 2, hj => cases hj; first | exact cell_blk HN3.out rfl | simp
          case c2 => exact one_mk _
          case c3 => unfold maxLen; omega
          case c4 => omega
          case c5 => first | exact Nat.le_of_lt HX3.out.lt | omega
          intro v' w4 hown' hgrow _
          have HB4 : Hid (BX 38 w #[.slice (some ⟨b, off, none⟩) es.length ec, .slice TA tn tc] w4) := Lib.hid ⟨HX3.out.b.grown hgrow (Nat.le_of_lt HX3.out.lt) (fun j hj => (HV3.out.lt j hj).1), (hgrow.block _ HX3.out.lt (fun e => own_far HV3.out HX3.out.f (by decide) e.symm)).trans HX3.out.f⟩
          have HV4 : Hid (w4.ownsRow w.heap.size 77 3 v' (k + 1) ((startL es (k + 1)).flatMap mkC)) := Lib.hid (by
            rw [HN.out, List.flatMap_append]
            have e8 : List.flatMap mkC [⟨inn, 0, (-1)⟩] = mkC ⟨inn, 0, (-1)⟩ := by simp
            rw [e8]; exact hown')
          clear hown' hgrow HX3 HV3 HN3 HN
          go_wp2_with fail
          go_roundw
          case rel => exact ⟨k + 1, hlt, by go_num, HV4, HB4⟩
          case measure => simp [intOf]; omega
        · rw [(E 0 due rfl (by omega)).out] at HN
          clear E
          have HX3 := Lib.hid ((HB1.out.alloc (.cells #[.bool inn, .int .i64 0, .int .i64 due] 77)).alloc (.cells #[.bool inn, .int .i64 0, .int .i64 due] 77))
          have HV3 := Lib.hid ((HV1.out.alloc (.cells #[.bool inn, .int .i64 0, .int .i64 due] 77)).alloc (.cells #[.bool inn, .int .i64 0, .int .i64 due] 77))
          have hn := heap_new (w1.alloc (.cells #[.bool inn, .int .i64 0, .int .i64 due] 77)) (.cells #[.bool inn, .int .i64 0, .int .i64 due] 77)
          rw [World.size_alloc] at hn
          have HN3 := Lib.hid hn
          clear hn HV1 HB1
          go_wp2_with (at_builtin; (try rw [← HW1.out]); refine wpList_append_own _ rfl (.tmp 36) (.tmp 38) 57 rfl w.heap.size 77 i0 _ 3 24 Try.underlying57 HI.out HZ0.out HZ1.out HZ2.out rfl (by omega) _ _ _ rfl HV3.out ⟨w1.heap.size + 1, 0, none⟩ 1 1 (mkC ⟨inn, 0, due⟩) (by rw [s1]; rfl) rfl ?c1 ?c2 ?c3 ?c4 ?c5 ?_)
          case c1 =>
            intro j u hj
            match j, hj with
            | 0, hj => cases hj; first | exact cell_blk HN3.out rfl | simp
            | 1, hj => cases hj; first | exact cell_blk HN3.out rfl | simp
            | 2, hj => cases hj; first | exact cell_blk HN3.out rfl | simp
          case c2 => exact one_mk _
          case c3 => unfold maxLen; omega
          case c4 => omega
          case c5 => first | exact Nat.le_of_lt HX3.out.lt | omega
          intro v' w4 hown' hgrow _
          have HB4 : Hid (BX 38 w #[.slice (some ⟨b, off, none⟩) es.length ec, .slice TA tn tc] w4) := Lib.hid ⟨HX3.out.b.grown hgrow (Nat.le_of_lt HX3.out.lt) (fun j hj => (HV3.out.lt j hj).1), (hgrow.block _ HX3.out.lt (fun e => own_far HV3.out HX3.out.f (by decide) e.symm)).trans HX3.out.f⟩
          have HV4 : Hid (w4.ownsRow w.heap.size 77 3 v' (k + 1) ((startL es (k + 1)).flatMap mkC)) := Lib.hid (by
            rw [HN.out, List.flatMap_append]
            have e8 : List.flatMap mkC [⟨inn, 0, due⟩] = mkC ⟨inn, 0, due⟩ := by simp
            rw [e8]; exact hown')
          clear hown' hgrow HX3 HV3 HN3 HN
          go_wp2_with fail
          go_roundw
          case rel => exact ⟨k + 1, hlt, by go_num, HV4, HB4⟩
          case measure => simp [intOf]; omega
        · rw [(E 0 1048576 rfl (by omega)).out] at HN
          clear E
          have HX3 := Lib.hid ((HB1.out.alloc (.cells #[.bool inn, .int .i64 0, .int .i64 1048576] 77)).alloc (.cells #[.bool inn, .int .i64 0, .int .i64 1048576] 77))
          have HV3 := Lib.hid ((HV1.out.alloc (.cells #[.bool inn, .int .i64 0, .int .i64 1048576] 77)).alloc (.cells #[.bool inn, .int .i64 0, .int .i64 1048576] 77))
          have hn := heap_new (w1.alloc (.cells #[.bool inn, .int .i64 0, .int .i64 1048576] 77)) (.cells #[.bool inn, .int .i64 0, .int .i64 1048576] 77)
          rw [World.size_alloc] at hn
          have HN3 := Lib.hid hn
          clear hn HV1 HB1
          go_wp2_with (at_builtin; (try rw [← HW1.out]); refine wpList_append_own _ rfl (.tmp 36) (.tmp 38) 57 rfl w.heap.size 77 i0 _ 3 24 Try.underlying57 HI.out HZ0.out HZ1.out HZ2.out rfl (by omega) _ _ _ rfl HV3.out ⟨w1.heap.size + 1, 0, none⟩ 1 1 (mkC ⟨inn, 0, 1048576⟩) (by rw [s1]; rfl) rfl ?c1 ?c2 ?c3 ?c4 ?c5 ?_)
          case c1 =>
            intro j u hj
            match j, hj with
            | 0, hj => cases hj; first | exact cell_blk HN3.out rfl | simp
            | 1, hj => cases hj; first | exact cell_blk HN3.out rfl | simp
            | 2, hj => cases hj; first | exact cell_blk HN3.out rfl | simp
          case c2 => exact one_mk _
          case c3 => unfold maxLen; omega
          case c4 => omega
          case c5 => first | exact Nat.le_of_lt HX3.out.lt | omega
          intro v' w4 hown' hgrow _
          have HB4 : Hid (BX 38 w #[.slice (some ⟨b, off, none⟩) es.length ec, .slice TA tn tc] w4) := Lib.hid ⟨HX3.out.b.grown hgrow (Nat.le_of_lt HX3.out.lt) (fun j hj => (HV3.out.lt j hj).1), (hgrow.block _ HX3.out.lt (fun e => own_far HV3.out HX3.out.f (by decide) e.symm)).trans HX3.out.f⟩
          have HV4 : Hid (w4.ownsRow w.heap.size 77 3 v' (k + 1) ((startL es (k + 1)).flatMap mkC)) := Lib.hid (by
            rw [HN.out, List.flatMap_append]
            have e8 : List.flatMap mkC [⟨inn, 0, 1048576⟩] = mkC ⟨inn, 0, 1048576⟩ := by simp
            rw [e8]; exact hown')
          clear hown' hgrow HX3 HV3 HN3 HN
          go_wp2_with fail
          go_roundw
          case rel => exact ⟨k + 1, hlt, by go_num, HV4, HB4⟩
          case measure => simp [intOf]; omega
      | false =>
        rcases hcase with h0 | ⟨h0, h1⟩ | h0
        · rw [(E (-1) (-1) rfl (by omega)).out] at HN
          clear E
          have HX3 := Lib.hid ((HB1.out.alloc (.cells #[.bool inn, .int .i64 (-1), .int .i64 (-1)] 77)).alloc (.cells #[.bool inn, .int .i64 (-1), .int .i64 (-1)] 77))
          have HV3 := Lib.hid ((HV1.out.alloc (.cells #[.bool inn, .int .i64 (-1), .int .i64 (-1)] 77)).alloc (.cells #[.bool inn, .int .i64 (-1), .int .i64 (-1)] 77))
          have hn := heap_new (w1.alloc (.cells #[.bool inn, .int .i64 (-1), .int .i64 (-1)] 77)) (.cells #[.bool inn, .int .i64 (-1), .int .i64 (-1)] 77)
          rw [World.size_alloc] at hn
          have HN3 := Lib.hid hn
          clear hn HV1 HB1
          go_wp2_with (at_builtin; (try rw [← HW1.out]); refine wpList_append_own _ rfl (.tmp 36) (.tmp 38) 57 rfl w.heap.size 77 i0 _ 3 24 Try.underlying57 HI.out HZ0.out HZ1.out HZ2.out rfl (by omega) _ _ _ rfl HV3.out ⟨w1.heap.size + 1, 0, none⟩ 1 1 (mkC ⟨inn, (-1), (-1)⟩) (by rw [s1]; rfl) rfl ?c1 ?c2 ?c3 ?c4 ?c5 ?_)
          case c1 =>
            intro j u hj
            match j, hj with
            | 0, hj => cases hj; first | exact cell_blk HN3.out rfl | simp
            | 1, hj => cases hj; first | exact cell_blk HN3.out rfl | simp
            | 2, hj => cases hj; first | exact cell_blk HN3.out rfl | simp
          case c2 => exact one_mk _
          case c3 => unfold maxLen; omega
          case c4 => omega
          case c5 => first | exact Nat.le_of_lt HX3.out.lt | omega
          intro v' w4 hown' hgrow _
          have HB4 : Hid (BX 38 w #[.slice (some ⟨b, off, none⟩) es.length ec, .slice TA tn tc] w4) := Lib.hid ⟨HX3.out.b.grown hgrow (Nat.le_of_lt HX3.out.lt) (fun j hj => (HV3.out.lt j hj).1), (hgrow.block _ HX3.out.lt (fun e => own_far HV3.out HX3.out.f (by decide) e.symm)).trans HX3.out.f⟩
          have HV4 : Hid (w4.ownsRow w.heap.size 77 3 v' (k + 1) ((startL es (k + 1)).flatMap mkC)) := Lib.hid (by
            rw [HN.out, List.flatMap_append]
            have e8 : List.flatMap mkC [⟨inn, (-1), (-1)⟩] = mkC ⟨inn, (-1), (-1)⟩ := by simp
            rw [e8]; exact hown')
          clear hown' hgrow HX3 HV3 HN3 HN
          go_wp2_with fail
          go_roundw
          case rel => exact ⟨k + 1, hlt, by go_num, HV4, HB4⟩
          case measure => simp [intOf]; omega
        · rw [(E (-1) due rfl (by omega)).out] at HN
          clear E
          have HX3 := Lib.hid ((HB1.out.alloc (.cells #[.bool inn, .int .i64 (-1), .int .i64 due] 77)).alloc (.cells #[.bool inn, .int .i64 (-1), .int .i64 due] 77))
          have HV3 := Lib.hid ((HV1.out.alloc (.cells #[.bool inn, .int .i64 (-1), .int .i64 due] 77)).alloc (.cells #[.bool inn, .int .i64 (-1), .int .i64 due] 77))
          have hn := heap_new (w1.alloc (.cells #[.bool inn, .int .i64 (-1), .int .i64 due] 77)) (.cells #[.bool inn, .int .i64 (-1), .int .i64 due] 77)
          rw [World.size_alloc] at hn
          have HN3 := Lib.hid hn
          clear hn HV1 HB1
          go_wp2_with (at_builtin; (try rw [← HW1.out]); refine wpList_append_own _ rfl (.tmp 36) (.tmp 38) 57 rfl w.heap.size 77 i0 _ 3 24 Try.underlying57 HI.out HZ0.out HZ1.out HZ2.out rfl (by omega) _ _ _ rfl HV3.out ⟨w1.heap.size + 1, 0, none⟩ 1 1 (mkC ⟨inn, (-1), due⟩) (by rw [s1]; rfl) rfl ?c1 ?c2 ?c3 ?c4 ?c5 ?_)
          case c1 =>
            intro j u hj
            match j, hj with
            | 0, hj => cases hj; first | exact cell_blk HN3.out rfl | simp
            | 1, hj => cases hj; first | exact cell_blk HN3.out rfl | simp
            | 2, hj => cases hj; first | exact cell_blk HN3.out rfl | simp
          case c2 => exact one_mk _
          case c3 => unfold maxLen; omega
          case c4 => omega
          case c5 => first | exact Nat.le_of_lt HX3.out.lt | omega
          intro v' w4 hown' hgrow _
          have HB4 : Hid (BX 38 w #[.slice (some ⟨b, off, none⟩) es.length ec, .slice TA tn tc] w4) := Lib.hid ⟨HX3.out.b.grown hgrow (Nat.le_of_lt HX3.out.lt) (fun j hj => (HV3.out.lt j hj).1), (hgrow.block _ HX3.out.lt (fun e => own_far HV3.out HX3.out.f (by decide) e.symm)).trans HX3.out.f⟩
          have HV4 : Hid (w4.ownsRow w.heap.size 77 3 v' (k + 1) ((startL es (k + 1)).flatMap mkC)) := Lib.hid (by
            rw [HN.out, List.flatMap_append]
            have e8 : List.flatMap mkC [⟨inn, (-1), due⟩] = mkC ⟨inn, (-1), due⟩ := by simp
            rw [e8]; exact hown')
          clear hown' hgrow HX3 HV3 HN3 HN
          go_wp2_with fail
          go_roundw
          case rel => exact ⟨k + 1, hlt, by go_num, HV4, HB4⟩
          case measure => simp [intOf]; omega
        · rw [(E (-1) 1048576 rfl (by omega)).out] at HN
          clear E
          have HX3 := Lib.hid ((HB1.out.alloc (.cells #[.bool inn, .int .i64 (-1), .int .i64 1048576] 77)).alloc (.cells #[.bool inn, .int .i64 (-1), .int .i64 1048576] 77))
          have HV3 := Lib.hid ((HV1.out.alloc (.cells #[.bool inn, .int .i64 (-1), .int .i64 1048576] 77)).alloc (.cells #[.bool inn, .int .i64 (-1), .int .i64 1048576] 77))
          have hn := heap_new (w1.alloc (.cells #[.bool inn, .int .i64 (-1), .int .i64 1048576] 77)) (.cells #[.bool inn, .int .i64 (-1), .int .i64 1048576] 77)
          rw [World.size_alloc] at hn
          have HN3 := Lib.hid hn
          clear hn HV1 HB1
          go_wp2_with (at_builtin; (try rw [← HW1.out]); refine wpList_append_own _ rfl (.tmp 36) (.tmp 38) 57 rfl w.heap.size 77 i0 _ 3 24 Try.underlying57 HI.out HZ0.out HZ1.out HZ2.out rfl (by omega) _ _ _ rfl HV3.out ⟨w1.heap.size + 1, 0, none⟩ 1 1 (mkC ⟨inn, (-1), 1048576⟩) (by rw [s1]; rfl) rfl ?c1 ?c2 ?c3 ?c4 ?c5 ?_)
          case c1 =>
            intro j u hj
            match j, hj with
            | 0, hj => cases hj; first | exact cell_blk HN3.out rfl | simp
            | 1, hj => cases hj; first | exact cell_blk HN3.out rfl | simp
            | 2, hj => cases hj; first | exact cell_blk HN3.out rfl | simp
          case c2 => exact one_mk _
          case c3 => unfold maxLen; omega
          case c4 => omega
          case c5 => first | exact Nat.le_of_lt HX3.out.lt | omega
          intro v' w4 hown' hgrow _
          have HB4 : Hid (BX 38 w #[.slice (some ⟨b, off, none⟩) es.length ec, .slice TA tn tc] w4) := Lib.hid ⟨HX3.out.b.grown hgrow (Nat.le_of_lt HX3.out.lt) (fun j hj => (HV3.out.lt j hj).1), (hgrow.block _ HX3.out.lt (fun e => own_far HV3.out HX3.out.f (by decide) e.symm)).trans HX3.out.f⟩
          have HV4 : Hid (w4.ownsRow w.heap.size 77 3 v' (k + 1) ((startL es (k + 1)).flatMap mkC)) := Lib.hid (by
            rw [HN.out, List.flatMap_append]
            have e8 : List.flatMap mkC [⟨inn, (-1), 1048576⟩] = mkC ⟨inn, (-1), 1048576⟩ := by simp
            rw [e8]; exact hown')
          clear hown' hgrow HX3 HV3 HN3 HN
          go_wp2_with fail
          go_roundw
          case rel => exact ⟨k + 1, hlt, by go_num, HV4, HB4⟩
          case measure => simp [intOf]; omega
    · obtain rfl : k = es.length := by omega
      rw [startL_all] at HV
      go_wp2_with fail
      go_ret
      exact ⟨_, rfl, HV.out, HB.out.b⟩
end Go.Proofs.Ytplplkchibefjaa.M5
