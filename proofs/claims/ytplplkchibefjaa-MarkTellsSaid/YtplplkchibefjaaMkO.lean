/-
  Contracts of layer 5's large and run.
-/
import Derived.Test.YtplplkchibefjaaMkN
namespace Go.Proofs.Ytplplkchibefjaa.M5
open Go.RowKit Go.Shelf Go.Proofs.Ytplplkchibefjaa.B

def largeB (n t : Nat) : Bool := decide (40 < n) || decide (300 < t)
theorem large_no {n t : Nat} (h : largeB n t = false) : n ≤ 40 ∧ t ≤ 300 := by
  unfold largeB at h; simp only [Bool.or_eq_false_iff, decide_eq_false_iff_not] at h; omega
set_option maxHeartbeats 400000 in
theorem large_any (EA TA : Option Addr) (en ec tn tc : Nat) (w : World) : Calls Try.prog 27 #[.agg #[.slice EA en ec, .slice TA tn tc]] w fun e w' => e = .returned (.bool (largeB en tn)) ∧ Below w.heap.size w w' := by
  have hb := (Below.refl w.heap.size w).alloc (Nat.le_refl _) (.cells #[.slice EA en ec, .slice TA tn tc] 32)
  go_enter Try.func27, Try.ntmps27
  go_wp2
  all_goals go_ret
  all_goals exact ⟨ret_bool (by rw [Bool.eq_iff_iff]; simp [largeB]; try omega), hb⟩
def u8C (b : UInt8) : List Value := [.int .u8 b.toNat]
/-- A step of a run: the event is done, if that may be, else a tick comes, if that may be. -/
def stepR (n : Nat) (ts : List Ti) (l : List Mk) (b : UInt8) : List Mk := if doE n ts l (b.toNat : Int) = 0 then doL ts l b.toNat else if tickE n l = 0 then l.map oldM else l
theorem step_len {n : Nat} {ts : List Ti} {l : List Mk} {b : UInt8} : (stepR n ts l b).length = l.length := by
  unfold stepR; split
  · exact do_len _ _ _
  · split <;> simp
def runK (ts : List Ti) (es : List Ev) (bs : List UInt8) (k : Nat) : List Mk := (bs.take k).foldl (stepR es.length ts) (es.map startM)
theorem runK_len (ts : List Ti) (es : List Ev) (bs : List UInt8) : ∀ k, (runK ts es bs k).length = es.length
  | 0 => by simp [runK]
  | k + 1 => by
    by_cases h : k < bs.length
    · unfold runK; rw [fold_next h, step_len]; exact runK_len ts es bs k
    · have e : bs.take (k + 1) = bs.take k := by rw [List.take_of_length_le (by omega), List.take_of_length_le (by omega)]
      have := runK_len ts es bs k
      unfold runK at this ⊢; rw [e]; exact this
def runL (ts : List Ti) (es : List Ev) (bs : List UInt8) : List Mk := runK ts es bs (min bs.length 60)
theorem runL_len (ts : List Ti) (es : List Ev) (bs : List UInt8) : (runL ts es bs).length = es.length := runK_len _ _ _ _
theorem runK_next {ts : List Ti} {es : List Ev} {bs : List UInt8} {k : Nat} (h : k < bs.length) : runK ts es bs (k + 1) = stepR es.length ts (runK ts es bs k) bs[k]! := fold_next h
set_option maxRecDepth 100000 in
set_option maxHeartbeats 4000000 in
theorem run_any (w : World) (EA TA A : Option Addr) (ec tc c : Nat) (es : List Ev) (ts : List Ti) (bs : List UInt8) (he : Row w EA (es.flatMap evC)) (ht : Row w TA (ts.flatMap tiC)) (hr : Row w A (bs.flatMap u8C)) (hel : es.length ≤ 40) (htl : ts.length ≤ 300) (hbl : bs.length ≤ 140737488351232) :
    Calls Try.prog 45 #[.agg #[.slice EA es.length ec, .slice TA ts.length tc], .slice A bs.length c] w fun e w' => ∃ v, e = .returned v ∧ w'.ownsRow w.heap.size 77 3 v es.length ((runL ts es bs).flatMap mkC) ∧ Below w.heap.size w w' := by
  have hb := (Below.refl w.heap.size w).alloc (Nat.le_refl _) (.cells #[.slice EA es.length ec, .slice TA ts.length tc] 32)
  have n0 := heap_new w (.cells #[.slice EA es.length ec, .slice TA ts.length tc] 32)
  have C := Lib.hid (start_any (w.alloc (.cells #[.slice EA es.length ec, .slice TA ts.length tc] 32)) EA TA ec ts.length tc es (he.below (Nat.le_refl _) hb) (by omega))
  have HB := Lib.hid hb
  have N0 := Lib.hid n0
  have HT := Lib.hid ht
  have HR := Lib.hid hr
  clear hb n0 ht hr he
  go_enter Try.func45, Try.ntmps45
  go_wp2_with fail
  refine C.out.mono ?_
  rintro e w3 ⟨v3, rfl, ho3, hb3⟩
  have HB3 := Lib.hid (HB.out.trans (hb3.mono HB.out.size))
  have N3 := Lib.hid ((hb3.block w.heap.size (by rw [World.size_alloc]; omega)).trans N0.out)
  have HO3 : Hid (w3.ownsRow w.heap.size 77 3 v3 es.length ((runK ts es bs 0).flatMap mkC)) := Lib.hid (own_base ho3 HB.out.size)
  clear hb3 ho3 C HB N0
  go_wp2_with fail
  go_loopw [5, 6] (fun v i wr => ∃ k : Nat, k ≤ bs.length ∧ k ≤ 60 ∧ i = .int .i64 k ∧ Hid (wr.ownsRow w.heap.size 77 3 v es.length ((runK ts es bs k).flatMap mkC)) ∧ Hid (wr.heap[w.heap.size]? = some (.cells #[.slice EA es.length ec, .slice TA ts.length tc] 32 (0, 0))) ∧ Hid (Below w.heap.size w wr)) (fun _ i _ => bs.length - (intOf i).toNat)
  case atStart => exact ⟨0, Nat.zero_le _, Nat.zero_le _, rfl, HO3, N3, HB3⟩
  case round =>
    clear HO3 N3 HB3
    obtain ⟨k, hk, hk6, rfl, HO, HN, HB⟩ := hrel
    have hk0 : (0 : Int) ≤ (k : Int) := Int.natCast_nonneg _
    by_cases hlt : k < bs.length
    · by_cases h60 : k < 60
      · obtain ⟨b, off, rfl, hb, hc⟩ := HR.out.at_ (k := 1) (fun _ => rfl) (by omega) hlt
        have kb := hc 0 _ rfl
        rw [Nat.add_zero, Nat.mul_one] at kb
        rw [← HB.out.cell (p := ⟨b, _, none⟩) hb] at kb
        have hz := HB.out.size
        have hbz : b < wr.heap.size := by omega
        have hlz := blk_lt HN.out
        have c0 : wr.cell? ⟨w.heap.size, 0, none⟩ = some (.slice EA es.length ec) := cell_blk HN.out rfl
        have c1 : wr.cell? ⟨w.heap.size, 1, none⟩ = some (.slice TA ts.length tc) := cell_blk HN.out rfl
        have HNx := Lib.hid (runK_next (ts := ts) (es := es) hlt)
        have hL := runK_len ts es bs k
        generalize runK ts es bs k = L at *
        generalize bs[k]! = x at *
        have hx := x.toNat_lt
        obtain ⟨va, vc, rfl⟩ := own_slice HO.out
        have HLn := Lib.hid hL
        have D := Lib.hid (do_any wr.drew EA TA va es.length ec tc vc ts L (x.toNat : Int) (HT.out.below (Nat.le_refl _) (below_draws HB.out 1)) (by omega) (Row.of_own HO.out.drew) (by omega))
        rw [hL] at D
        clear hc hL
        have hwr : IntKind.i64.wrap ((x.toNat : Nat) : Int) = ((x.toNat : Nat) : Int) := IntWalk.i64_in _ (by omega)
        obtain ⟨xn, hxn⟩ : ∃ xn : Nat, xn = x.toNat := ⟨_, rfl⟩
        have HNs : Hid (stepR es.length ts L x = if doE es.length ts L (xn : Int) = 0 then doL ts L xn else if tickE es.length L = 0 then L.map oldM else L) := Lib.hid (by rw [hxn]; rfl)
        rw [← hxn] at kb D hwr hx
        clear hxn
        have hz2 : w.heap.size ≤ wr.drew.heap.size := hz
        have hl2 : w.heap.size < wr.drew.heap.size := hlz
        have N2 : Hid (wr.drew.heap[w.heap.size]? = some (.cells #[.slice EA es.length ec, .slice TA ts.length tc] 32 (0, 0))) := Lib.hid HN.out
        have hB2 := Lib.hid (below_draws HB.out 1)
        have hO2 := Lib.hid HO.out.drew
        go_wp2_with fail
        go_cut [7, 8] (fun s7 s8 wc => ∃ v : Value, s7 = v ∧ s8 = .int .i64 (doE es.length ts L (xn : Int)) ∧ Hid (doE es.length ts L (xn : Int) = 0 → wc.ownsRow w.heap.size 77 3 v es.length ((doL ts L xn).flatMap mkC)) ∧ Hid (wc.ownsRow w.heap.size 77 3 (.slice va es.length vc) es.length (L.flatMap mkC)) ∧ Hid (wc.heap[w.heap.size]? = some (.cells #[.slice EA es.length ec, .slice TA ts.length tc] 32 (0, 0))) ∧ Hid (Below w.heap.size w wc))
        case first =>
          go_region_with (go_at_call 41; refine D.out.mono ?_; rintro e w4 ⟨hb4, v4, rfl, h4, -⟩; have HV4 := Lib.hid h4; have HB4 := Lib.hid hb4; clear h4 hb4)
          all_goals
            have F1 : Hid (doE es.length ts L (xn : Int) = 0 → w4.ownsRow w.heap.size 77 3 v4 es.length ((doL ts L xn).flatMap mkC)) := Lib.hid (fun h => by have h5 := HV4.out h; rw [HLn.out, Int.toNat_natCast] at h5; exact own_base h5 hz2)
            have F2 := Lib.hid (own_below hO2.out HB4.out)
            have F3 := Lib.hid ((HB4.out.block _ hl2).trans N2.out)
            have F4 := Lib.hid (hB2.out.trans (HB4.out.mono hz2))
            clear HV4 HB4 D
            go_wp2_with fail
            go_meet
            exact ⟨_, rfl, rfl, F1, F2, F3, F4⟩
        case rest =>
          obtain ⟨v4, rfl, rfl, HV4, HO4, N4, HB4⟩ := hcut
          have hzc := HB4.out.size
          have hlc := blk_lt N4.out
          have d0 : wc.cell? ⟨w.heap.size, 0, none⟩ = some (.slice EA es.length ec) := cell_blk N4.out rfl
          have d1 : wc.cell? ⟨w.heap.size, 1, none⟩ = some (.slice TA ts.length tc) := cell_blk N4.out rfl
          have T := Lib.hid (tick_any wc EA TA va es.length ec ts.length tc vc L (Row.of_own HO4.out) (by rw [HLn.out]; omega))
          rw [HLn.out] at T
          clear HO HB HN N2 hB2 hO2 D kb c0 c1 hwr
          by_cases hq : doE es.length ts L (xn : Int) = 0
          · rw [if_pos hq] at HNs
            have HV5 := Lib.hid (HV4.out hq)
            rw [hq]
            clear hq HV4 T
            go_wp2_with fail
            go_roundw
            case rel => exact ⟨k + 1, hlt, h60, by go_num, by rw [HNx.out, HNs.out]; exact HV5, N4, HB4⟩
            case measure => simp [intOf]; omega
          · rw [if_neg hq] at HNs
            generalize doE es.length ts L (xn : Int) = qq at *
            have e1 : (qq == 0) = false := beq_eq_false_iff_ne.2 hq
            clear hq HV4
            go_wp2_with fail
            refine T.out.mono ?_
            rintro e w5 ⟨hb5, v5, rfl, h5, -⟩
            have HB5 := Lib.hid (HB4.out.trans (hb5.mono hzc))
            have HO5 := Lib.hid (own_below HO4.out hb5)
            have N5 := Lib.hid ((hb5.block _ hlc).trans N4.out)
            by_cases ht : tickE es.length L = 0
            · have HV6 := Lib.hid (own_base (h5 ht) hzc)
              rw [HLn.out] at HV6
              rw [if_pos ht] at HNs
              rw [ht]
              clear hb5 h5 ht T HO4 N4 HB4 d0 d1
              go_wp2_with fail
              go_roundw
              case rel => exact ⟨k + 1, hlt, h60, by go_num, by rw [HNx.out, HNs.out]; exact HV6, N5, HB5⟩
              case measure => simp [intOf]; omega
            · rw [if_neg ht] at HNs
              generalize tickE es.length L = tt at *
              have e2 : (tt == 0) = false := beq_eq_false_iff_ne.2 ht
              clear hb5 h5 ht T HO4 N4 HB4 d0 d1
              go_wp2_with fail
              go_roundw
              case rel => exact ⟨k + 1, hlt, h60, by go_num, by rw [HNx.out, HNs.out]; exact HO5, N5, HB5⟩
              case measure => simp [intOf]; omega
      · have e1 : min bs.length 60 = k := by omega
        go_wp2_with fail
        go_ret
        refine ⟨_, rfl, ?_, HB.out⟩
        rw [runL, e1]; exact HO.out
    · have e1 : min bs.length 60 = k := by omega
      go_wp2_with fail
      go_ret
      refine ⟨_, rfl, ?_, HB.out⟩
      rw [runL, e1]; exact HO.out
end Go.Proofs.Ytplplkchibefjaa.M5
