/-
  Contract of Start.
-/
import Derived.Test.YtplplkchibefjaaMkF
import Derived.Deep.RegionWith
import Derived.Deep.DeepCutAuto
namespace Go.Proofs.Ytplplkchibefjaa.M5
open Go.RowKit Go.Shelf Go.Proofs.Ytplplkchibefjaa.B

theorem start_done {v : Ev} (h : v.done = true) : startM v = ⟨v.inn, 0, withI (-1) v.due 1048576⟩ := by unfold startM; rw [h]; rfl
theorem start_not {v : Ev} (h : v.done = false) : startM v = ⟨v.inn, -1, withI (-1) v.due 1048576⟩ := by unfold startM; rw [h]; rfl
theorem drewN1 (w : World) : w.drew = w.drewN 1 := rfl
theorem own_drew {w : World} {B e z n : Nat} {v : Value} {xs : List Value} (h : w.ownsRow B e z v n xs) : w.drew.ownsRow B e z v n xs := h.drew
/-- The first k marks of the first marking. -/
def startL (es : List Ev) (k : Nat) : List Mk := (es.take k).map startM
theorem startL_all (es : List Ev) : startL es es.length = es.map startM := by rw [startL, List.take_length]
theorem startL_len {es : List Ev} {k : Nat} (hk : k ≤ es.length) : (startL es k).length = k := by simp [startL, hk]
theorem startL_next {es : List Ev} {k : Nat} (hk : k < es.length) : startL es (k + 1) = startL es k ++ [startM es[k]!] := map_next hk
set_option maxRecDepth 100000 in
set_option maxHeartbeats 4000000 in
theorem start_any (w : World) (EA TA : Option Addr) (ec tn tc : Nat) (es : List Ev) (he : Row w EA (es.flatMap evC)) (hel : es.length * 64 ≤ 140737488351232) :
    Calls Try.prog 39 #[.agg #[.slice EA es.length ec, .slice TA tn tc]] w fun e w' => ∃ v, e = .returned v ∧ w'.ownsRow w.heap.size 77 3 v es.length ((es.map startM).flatMap mkC) ∧ Below w.heap.size w w' := by
  obtain ⟨i0, hi, hz0, hz1, hz2⟩ := info_parts info_mk
  have HI := Lib.hid hi
  have HZ0 := Lib.hid hz0
  have HZ1 := Lib.hid hz1
  have HZ2 := Lib.hid hz2
  have hb := (Below.refl w.heap.size w).alloc (Nat.le_refl _) (.cells #[.slice EA es.length ec, .slice TA tn tc] 32)
  have HB := Lib.hid hb
  have HR := Lib.hid he
  clear hb he hi hz0 hz1 hz2
  go_enter Try.func39, Try.ntmps39
  go_wp2_with fail
  go_loopw [3, 10] (fun v i wr => ∃ k : Nat, k ≤ es.length ∧ i = .int .i64 k ∧ Hid (wr.ownsRow w.heap.size 77 3 v k ((startL es k).flatMap mkC)) ∧ Hid (Below w.heap.size w wr)) (fun _ i _ => es.length - (intOf i).toNat)
  case atStart => exact ⟨0, Nat.zero_le _, rfl, Lib.hid (World.ownsRow_nil _ _ _ _), HB⟩
  case round =>
    clear HB
    obtain ⟨k, hk, rfl, HV, HB⟩ := hrel
    by_cases hlt : k < es.length
    · obtain ⟨b, off, rfl, hb, hc⟩ := HR.out.at_ (k := 6) (fun _ => rfl) (by omega) hlt
      have k0 := hc 0 _ rfl
      have k1 := hc 1 _ rfl
      have k2 := hc 2 _ rfl
      have k3 := hc 3 _ rfl
      have k4 := hc 4 _ rfl
      have k5 := hc 5 _ rfl
      rw [Nat.add_zero] at k0
      rw [← HB.out.cell (p := ⟨b, _, none⟩) hb] at k0 k1 k2 k3 k4 k5
      have hz := HB.out.size
      have hbz : b < wr.heap.size := by omega
      obtain ⟨va, vc, rfl⟩ := own_slice HV.out
      have HN := Lib.hid (startL_next hlt)
      generalize es[k]! = x at *
      have HX := Lib.hid (HB.out.alloc hz (.cells #[.string x.name, .string x.group, .string x.role, .bool x.inn, .bool x.done, .int .i64 x.due] 46))
      have HVX := Lib.hid (HV.out.alloc (.cells #[.string x.name, .string x.group, .string x.role, .bool x.inn, .bool x.done, .int .i64 x.due] 46))
      have C := fun W => Lib.hid (within_any (-1) x.due 1048576 W)
      have hs := startL_len hk
      clear hc
      obtain ⟨d, hdd⟩ : ∃ d, d = withI (-1) x.due 1048576 := ⟨_, rfl⟩
      rw [← hdd] at C
      have HD := Lib.hid hdd
      clear hdd
      go_wp2_with fail
      go_cut [6] (fun s6 wc => s6 = .pointer (some ⟨wr.heap.size + 1, 0, none⟩) ∧ wc = ((wr.alloc (.cells #[.string x.name, .string x.group, .string x.role, .bool x.inn, .bool x.done, .int .i64 x.due] 46)).alloc (.cells #[.bool x.inn, .int .i64 (-1), .int .i64 d] 77)).drew)
      case first =>

        go_region_with (go_at_call 67; refine (C _).out.mono ?_; rintro e w' ⟨rfl, rfl⟩)
        all_goals (go_wp2_with fail; go_meet; exact ⟨rfl, rfl⟩)
      case rest =>
        obtain ⟨rfl, rfl⟩ := hcut
        cases hd : x.done with
        | true =>
          rw [start_done hd, ← HD.out] at HN
          have hX3 := ((HX.out.alloc (by rw [World.size_alloc]; omega) (.cells #[.bool x.inn, .int .i64 0, .int .i64 d] 77)).alloc (by rw [World.size_alloc, World.size_alloc]; omega) (.cells #[.bool x.inn, .int .i64 0, .int .i64 d] 77))
          have hV3 := ((HVX.out.alloc (.cells #[.bool x.inn, .int .i64 0, .int .i64 d] 77)).alloc (.cells #[.bool x.inn, .int .i64 0, .int .i64 d] 77))
          have hn := heap_new ((wr.alloc (.cells #[.string x.name, .string x.group, .string x.role, .bool x.inn, .bool true, .int .i64 x.due] 46)).alloc (.cells #[.bool x.inn, .int .i64 0, .int .i64 d] 77)) (.cells #[.bool x.inn, .int .i64 0, .int .i64 d] 77)
          rw [World.size_alloc, World.size_alloc] at hn
          rw [hd] at hX3 hV3
          have HX3 := Lib.hid (below_draws hX3 1)
          have HV3 := Lib.hid hV3.drew
          have HN3 := Lib.hid hn
          clear hX3 hV3 hn HX HVX HV
          go_wp2_with (at_builtin; refine wpList_append_own _ rfl (.tmp 23) (.tmp 25) 57 rfl w.heap.size 77 i0 _ 3 24 Try.underlying57 HI.out HZ0.out HZ1.out HZ2.out rfl (by omega) _ _ _ rfl HV3.out ⟨wr.heap.size + 1 + 1, 0, none⟩ 1 1 (mkC ⟨x.inn, 0, d⟩) rfl rfl ?c1 ?c2 ?c3 ?c4 ?c5 ?_)
          case c1 =>
            intro j u hj
            match j, hj with
            | 0, hj => cases hj; exact cell_blk HN3.out rfl
            | 1, hj => cases hj; exact cell_blk HN3.out rfl
            | 2, hj => cases hj; exact cell_blk HN3.out rfl
          case c2 => exact one_mk _
          case c3 => unfold maxLen; omega
          case c4 => omega
          case c5 => have := HX3.out.size; exact this
          intro v' w4 hown' hgrow _
          have HB4 : Hid (Below w.heap.size w w4) := Lib.hid (HX3.out.grown hgrow HX3.out.size (fun j hj => (HV3.out.lt j hj).1))
          have HV4 : Hid (w4.ownsRow w.heap.size 77 3 v' (k + 1) ((startL es (k + 1)).flatMap mkC)) := Lib.hid (by
            rw [HN.out, List.flatMap_append]
            have e8 : List.flatMap mkC [⟨x.inn, 0, d⟩] = mkC ⟨x.inn, 0, d⟩ := by simp
            rw [e8]; exact hown')
          clear hown' hgrow HX3 HV3 HN3 HN
          go_wp2_with fail
          go_roundw
          case rel => exact ⟨k + 1, hlt, by go_num, HV4, HB4⟩
          case measure => simp [intOf]; omega
        | false =>
          rw [start_not hd, ← HD.out] at HN
          have hX3 := ((HX.out.alloc (by rw [World.size_alloc]; omega) (.cells #[.bool x.inn, .int .i64 (-1), .int .i64 d] 77)).alloc (by rw [World.size_alloc, World.size_alloc]; omega) (.cells #[.bool x.inn, .int .i64 (-1), .int .i64 d] 77))
          have hV3 := ((HVX.out.alloc (.cells #[.bool x.inn, .int .i64 (-1), .int .i64 d] 77)).alloc (.cells #[.bool x.inn, .int .i64 (-1), .int .i64 d] 77))
          have hn := heap_new ((wr.alloc (.cells #[.string x.name, .string x.group, .string x.role, .bool x.inn, .bool false, .int .i64 x.due] 46)).alloc (.cells #[.bool x.inn, .int .i64 (-1), .int .i64 d] 77)) (.cells #[.bool x.inn, .int .i64 (-1), .int .i64 d] 77)
          rw [World.size_alloc, World.size_alloc] at hn
          rw [hd] at hX3 hV3
          have HX3 := Lib.hid (below_draws hX3 1)
          have HV3 := Lib.hid hV3.drew
          have HN3 := Lib.hid hn
          clear hX3 hV3 hn HX HVX HV
          go_wp2_with (at_builtin; refine wpList_append_own _ rfl (.tmp 23) (.tmp 25) 57 rfl w.heap.size 77 i0 _ 3 24 Try.underlying57 HI.out HZ0.out HZ1.out HZ2.out rfl (by omega) _ _ _ rfl HV3.out ⟨wr.heap.size + 1 + 1, 0, none⟩ 1 1 (mkC ⟨x.inn, (-1), d⟩) rfl rfl ?c1 ?c2 ?c3 ?c4 ?c5 ?_)
          case c1 =>
            intro j u hj
            match j, hj with
            | 0, hj => cases hj; exact cell_blk HN3.out rfl
            | 1, hj => cases hj; exact cell_blk HN3.out rfl
            | 2, hj => cases hj; exact cell_blk HN3.out rfl
          case c2 => exact one_mk _
          case c3 => unfold maxLen; omega
          case c4 => omega
          case c5 => have := HX3.out.size; exact this
          intro v' w4 hown' hgrow _
          have HB4 : Hid (Below w.heap.size w w4) := Lib.hid (HX3.out.grown hgrow HX3.out.size (fun j hj => (HV3.out.lt j hj).1))
          have HV4 : Hid (w4.ownsRow w.heap.size 77 3 v' (k + 1) ((startL es (k + 1)).flatMap mkC)) := Lib.hid (by
            rw [HN.out, List.flatMap_append]
            have e8 : List.flatMap mkC [⟨x.inn, (-1), d⟩] = mkC ⟨x.inn, (-1), d⟩ := by simp
            rw [e8]; exact hown')
          clear hown' hgrow HX3 HV3 HN3 HN
          go_wp2_with fail
          go_roundw
          case rel => exact ⟨k + 1, hlt, by go_num, HV4, HB4⟩
          case measure => simp [intOf]; omega
    · obtain rfl : k = es.length := by omega
      have e := Lib.hid (startL_all es)
      go_wp2_with fail
      go_ret
      exact ⟨_, rfl, by rw [← e.out]; exact HV.out, HB.out⟩
end Go.Proofs.Ytplplkchibefjaa.M5
