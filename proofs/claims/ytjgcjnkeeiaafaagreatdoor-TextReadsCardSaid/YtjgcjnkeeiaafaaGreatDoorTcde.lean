/-
  Contract of the document's own users.
-/
import Derived.Test.YtjgcjnkeeiaafaaGreatDoorTcci
namespace Go.Proofs.YtjgcjnkeeiaafaaGreatDoor.P3.D
open Go.RowKit Go.Shelf Go.Proofs.YtjgcjnkeeiaafaaGreatDoor Go.Proofs.YtjgcjnkeeiaafaaGreatDoor.P3 Go.Proofs.YtjgcjnkeeiaafaaGreatDoor.P3.C Go.Proofs.YtjgcjnkeeiaafaaGreatDoor.P3.L Go.Proofs.YtjgcjnkeeiaafaaGreatDoor.Lx
theorem info_us : (Tryz.prog.info? 74).map (fun i => (i.zero, i.size, i.bytes)) = some (some (.agg #[.string ⟨#[]⟩, .slice none 0 0, .string ⟨#[]⟩]), 3, 56) := by kernel_rfl
theorem info_st : (Tryz.prog.info? 9).map (fun i => (i.zero, i.size, i.bytes)) = some (some (.string ⟨#[]⟩), 1, 16) := by kernel_rfl
theorem gro_us {B : Nat} {W : World} {z3 : Value} {ra : Option Addr} {rc : Nat} {a b : List UInt8} {rs : List (List UInt8)} (h : W.ownsRow B 74 3 z3 1 [.string (bytes a), .slice ra rs.length rc, .string (bytes b)])
    (hr : W.ownsRow B 9 1 (.slice ra rs.length rc) rs.length ((rs.map bytes).map Value.string)) : GrO B [.u ⟨a, rs, b⟩] nilV nilV nilV z3 W := by
  refine ⟨[⟨bytes a, ra, rc, rs.map bytes, bytes b⟩], rfl, World.ownsRow_nil _ _ _ _, World.ownsRow_nil _ _ _ _, World.ownsRow_nil _ _ _ _, ?_, fun u hu => ?_⟩
  · have e : ([(⟨bytes a, ra, rc, rs.map bytes, bytes b⟩ : Us)].flatMap usC) = [.string (bytes a), .slice ra rs.length rc, .string (bytes b)] := by simp [usC]
    rw [e]; exact h
  · obtain rfl := List.mem_singleton.1 hu
    show W.ownsRow B 9 1 (.slice ra (rs.map bytes).length rc) (rs.map bytes).length _
    rw [List.length_map]; exact hr
/-- What no longer turns: all blocks stay. -/
theorem below_none {W W' : World} (h : W.grownBy W' none) : Below W.heap.size W W' := ⟨h.os, h.tape, h.output, h.size, fun k hk => h.block k hk (by intro e; cases e)⟩
/-- The roles so far, and those to come. -/
def RS (L : List B3) (i : Nat) (ds : List (List UInt8)) : Prop := ∃ n, rolesS L L.length (3, false) = ((rolesS L n (i, false)).1, ds ++ (rolesS L n (i, false)).2) ∧ L.length ≤ n + i
theorem RS.start (L : List B3) : RS L 3 [] := ⟨L.length, rfl, by omega⟩
theorem RS.step {L : List B3} {i : Nat} {ds : List (List UInt8)} (h : RS L i ds) (hi : clsAt L i = [110]) : RS L (i + 1) (ds ++ [txtAt L i]) := by
  obtain ⟨n, h1, h2⟩ := h
  have hl := at_lt (l := L) (i := i) (by rw [hi]; decide)
  obtain ⟨m, rfl⟩ : ∃ m, n = m + 1 := ⟨n - 1, by omega⟩
  rw [roles_step hi, tak_at (by decide) hi] at h1
  exact ⟨m, by rw [h1]; simp, by omega⟩
theorem RS.stop {L : List B3} {i : Nat} {ds : List (List UInt8)} (h : RS L i ds) (hi : clsAt L i ≠ [110]) : rolesS L L.length (3, false) = ((i, false), ds) := by
  obtain ⟨n, h1, _⟩ := h
  rw [roles_end hi] at h1
  rw [h1]; simp
def vsOf (ds : List (List UInt8)) : List Value := (ds.map bytes).map Value.string
theorem vs_snoc (ds : List (List UInt8)) (x : List UInt8) : vsOf (ds ++ [x]) = vsOf ds ++ [.string ⟨x.toArray⟩] := by unfold vsOf; simp; rfl
set_option maxRecDepth 100000 in
set_option maxHeartbeats 8000000 in
theorem rusers_any (w : World) (gb : Nat) (A : Option Addr) (c : Nat) (T : List Tok) (KA : Option Addr) (kc : Nat) (hg : w.heap[gb]? = some (.cells #[nilV, nilV, nilV, nilV] 28 (0, 0))) (hR : Row w A (rowC T)) (hK : KR w KA (T.map bare))
    (hfA : Far gb A) (hfK : Far gb KA) (hl : T.length ≤ 1000000) (h1 : 1 ≤ T.length) :
    Calls Tryz.prog 42 #[.pointer (some ⟨gb, 0, none⟩), .slice A T.length c, .slice KA (T.length + 1) kc] w (SgP gb (dUs (T.map bare)) (.u (usV (T.map bare))) w) := by
  obtain ⟨i0, hi0, hi1, hi2, hi3⟩ := info_parts info_us
  have HI0 := Lib.hid hi0
  have HI1 := Lib.hid hi1
  have HI2 := Lib.hid hi2
  have HI3 := Lib.hid hi3
  clear hi0 hi1 hi2 hi3
  obtain ⟨j0, hj0, hj1, hj2, hj3⟩ := info_parts info_st
  have HJ0 := Lib.hid hj0
  have HJ1 := Lib.hid hj1
  have HJ2 := Lib.hid hj2
  have HJ3 := Lib.hid hj3
  clear hj0 hj1 hj2 hj3
  have hlen : (T.map bare).length = T.length := List.length_map ..
  have HK := Lib.hid hK
  have HR := Lib.hid hR
  have HFK := Lib.hid hfK
  have HG := Lib.hid hg
  have HL := Lib.hid hlen
  obtain ⟨w1, hw1⟩ : ∃ w1, w1 = w.alloc (.cells #[.string ⟨#[110]⟩, .string ⟨#[114, 111, 108, 101, 115]⟩] 9) := ⟨_, rfl⟩
  have hb1 : Below w.heap.size w w1 := by rw [hw1]; exact (Below.refl _ _).alloc (Nat.le_refl _) _
  have HW1 := Lib.hid (show Row w1 (some ⟨w.heap.size, 0, none⟩) [.string ⟨#[110]⟩, .string ⟨#[114, 111, 108, 101, 115]⟩] by
    rw [hw1]; exact fun _ => ⟨_, 0, rfl, by simp, fun j u hj => by rw [Nat.zero_add]; exact B.cell_blk (B.heap_new _ _) (by rw [← hj]; simp)⟩)
  have CF := fits_any w1 KA kc (T.map bare) 1 (some ⟨w.heap.size, 0, none⟩) 2 ⟨#[110]⟩ ⟨#[114, 111, 108, 101, 115]⟩ (hK.below hb1) HW1.out (by rw [hlen]; exact h1) (by rw [Lib.toList_data]; decide) (by rw [hlen]; exact hl)
  rw [hlen, show (⟨#[110]⟩ : ByteArray).toList = [110] from by rw [Lib.toList_data], show (⟨#[114, 111, 108, 101, 115]⟩ : ByteArray).toList = kRoles from by rw [Lib.toList_data]] at CF
  have HCF := Lib.hid CF
  have HB1 := Lib.hid hb1
  clear CF hb1
  by_cases hn1 : clsAt (T.map bare) 1 = [110]
  case neg =>
    have HN : Hid (fitN (T.map bare) [110] kRoles 1 = 0) := Lib.hid (by unfold fitN; rw [if_neg hn1])
    have HD : Hid (dUs (T.map bare) = (1, true)) := Lib.hid (by unfold dUs; rw [if_neg hn1])
    rw [HD.out]
    have HP := Lib.hid (fun w2 (hb : Below w1.heap.size w1 w2) => sg_bad (n := 1) (gb := gb) (v := .u (usV (T.map bare))) (grown_of (gb := gb) (HB1.out.trans (hb.mono HB1.out.size))))
    generalize SgP gb (1, true) (.u (usV (T.map bare))) w = SP at *
    clear hn1 hK hR hg
    go_enter Tryz.func42, Tryz.ntmps42
    go_wp2_with fail
    rw [← hw1]
    refine HCF.out.mono ?_
    rintro e w2 ⟨rfl, hb2⟩
    rw [HN.out]
    have HF := Lib.hid (HP.out w2 hb2)
    clear hb2
    go_wp2_with fail
    first | exact HF.out | (go_ret; exact HF.out)
  by_cases hn2 : clsAt (T.map bare) 2 = kRoles
  case neg =>
    have HN : Hid (fitN (T.map bare) [110] kRoles 1 = 1) := Lib.hid (by unfold fitN; rw [if_pos hn1, if_neg hn2])
    have HD : Hid (dUs (T.map bare) = (2, true)) := Lib.hid (by unfold dUs; rw [if_pos hn1, if_neg hn2])
    rw [HD.out]
    have HP := Lib.hid (fun w2 (hb : Below w1.heap.size w1 w2) => sg_bad (n := 2) (gb := gb) (v := .u (usV (T.map bare))) (grown_of (gb := gb) (HB1.out.trans (hb.mono HB1.out.size))))
    generalize SgP gb (2, true) (.u (usV (T.map bare))) w = SP at *
    clear hn1 hn2 hK hR hg
    go_enter Tryz.func42, Tryz.ntmps42
    go_wp2_with fail
    rw [← hw1]
    refine HCF.out.mono ?_
    rintro e w2 ⟨rfl, hb2⟩
    rw [HN.out]
    have HF := Lib.hid (HP.out w2 hb2)
    clear hb2
    go_wp2_with fail
    first | exact HF.out | (go_ret; exact HF.out)
  have HN : Hid (fitN (T.map bare) [110] kRoles 1 = 2) := Lib.hid (by unfold fitN; rw [if_pos hn1, if_pos hn2])
  have hT3 : 2 < T.length := by rw [← hlen]; exact at_lt (by rw [hn2]; decide)
  obtain ⟨tb, to_, rfl, htb, htc⟩ := tok_at hR hT3
  obtain ⟨_, t1, _, _⟩ := htc 1 (by omega)
  have HTC := Lib.hid htc
  have HTX := Lib.hid (txt_at (show 1 < T.length by omega))
  obtain ⟨kb, ko, rfl, hkb, hkc⟩ := hK.at_
  have HKC := Lib.hid hkc
  have hT1 : (1 : Int) < (T.length : Int) := by omega
  have HN1 := Lib.hid hn1
  have HN2 := Lib.hid hn2
  clear htc hkc hn1 hn2
  generalize T[1]!.text = n1 at *
  go_enter Tryz.func42, Tryz.ntmps42
  go_wp2_with fail
  rw [← hw1]
  clear hw1
  refine HCF.out.mono ?_
  rintro e w2 ⟨rfl, hb2⟩
  rw [HN.out]
  have HB2 := Lib.hid (HB1.out.trans (hb2.mono HB1.out.size))
  have hz2 := HB2.out.size
  have t1 := (HB2.out.cell (p := ⟨tb, _, none⟩) htb).trans t1
  simp only [Nat.one_mul] at t1
  have htb2 : tb < w2.heap.size := by omega
  clear hb2 HCF HW1 HN
  obtain ⟨xb, hxb⟩ : ∃ xb, xb = w2.heap.size := ⟨_, rfl⟩
  obtain ⟨wx, hwx⟩ : ∃ wx, wx = w2.alloc (.cells #[.string ⟨n1.toArray⟩, .slice none 0 0, .string ⟨#[]⟩] 74) := ⟨_, rfl⟩
  have HX0 := Lib.hid (show wx.heap[xb]? = some (.cells #[.string ⟨n1.toArray⟩, .slice none 0 0, .string ⟨#[]⟩] 74 (0, 0)) by rw [hwx, hxb]; exact B.heap_new _ _)
  have HB0 := Lib.hid (show Below w.heap.size w wx by rw [hwx]; exact HB2.out.alloc hz2 _)
  have HV0 : Hid (wx.ownsRow w.heap.size 9 1 (.slice none 0 0) ([] : List (List UInt8)).length (vsOf [])) := Lib.hid (World.ownsRow_nil _ _ _ _)
  have hxw : w.heap.size ≤ xb := by rw [hxb]; exact hz2
  have HS0 := Lib.hid (RS.start (T.map bare))
  have h3 : 3 ≤ T.length := hT3
  go_wp2_with fail
  rw [← hwx, ← hxb]
  clear hwx hxb t1 htb2 hz2
  go_loopw [9] (fun i wr => ∃ (m : Nat) (ds : List (List UInt8)) (v : Value), m ≤ T.length ∧ i = .int .i64 m ∧ ds.length ≤ m ∧ Hid (RS (T.map bare) m ds) ∧ Hid (wr.heap[xb]? = some (.cells #[.string ⟨n1.toArray⟩, v, .string ⟨#[]⟩] 74 (0, 0))) ∧ Hid (wr.ownsRow w.heap.size 9 1 v ds.length (vsOf ds)) ∧ Hid (Below w.heap.size w wr)) (fun i _ => T.length + 1 - (intOf i).toNat)
  case atStart => exact ⟨3, [], _, h3, rfl, by decide, HS0, HX0, HV0, HB0⟩
  case round =>
    obtain ⟨m, ds, v, hm, rfl, hds, HS, HX, HV, HB⟩ := hrel
    obtain ⟨s, hs, he⟩ := HKC.out m (by rw [HL.out]; exact hm)
    have q1 := (HB.out.cell (p := ⟨kb, ko + m, none⟩) hkb).trans hs
    have hBs := HB.out.size
    have hkl : kb < wr.heap.size := by omega
    have hm0 : (0 : Int) ≤ (m : Int) := Int.natCast_nonneg _
    have hm1 : (m : Int) < ((T.length + 1 : Nat) : Int) := by omega
    obtain ⟨ra, rc, rfl⟩ := B.own_slice HV.out
    have x0 := B.cell_blk (i := 0) HX.out rfl
    have x1 := B.cell_blk (i := 1) HX.out rfl
    have x2 := B.cell_blk (i := 2) HX.out rfl
    have xf1 := B.frozen_blk (i := 1) HX.out
    have xf2 := B.frozen_blk (i := 2) HX.out
    have xl := B.blk_lt HX.out
    cases hq : (s.toList == [110]) with
    | true =>
      have hc : clsAt (T.map bare) m = [110] := he.symm.trans (eq_of_beq hq)
      have hlt : m < T.length := by rw [← HL.out]; exact at_lt (by rw [hc]; decide)
      have HS' := Lib.hid (HS.out.step hc)
      rw [txt_at hlt] at HS'
      obtain ⟨_, t2, _, _⟩ := HTC.out m hlt
      have t2 := (HB.out.cell (p := ⟨tb, _, none⟩) htb).trans t2
      have htl : tb < wr.heap.size := by omega
      have hm2 : (m : Int) < (T.length : Int) := by omega
      generalize T[m]!.text = tx at *
      have HNB := Lib.hid (B.heap_new wr (.cells #[.string ⟨tx.toArray⟩] 9))
      have hfar := B.own_far HV.out HX.out (by decide)
      clear he hc hs
      have HOD := Lib.hid (B.own_below HV.out (B.below_draws ((Below.refl wr.heap.size wr).alloc (Nat.le_refl _) (.cells #[.string ⟨tx.toArray⟩] 9)) 1))
      have HBD := Lib.hid (B.below_draws (HB.out.alloc hBs (.cells #[.string ⟨tx.toArray⟩] 9)) 1)
      have HXD : Hid ((((wr.alloc (.cells #[.string ⟨tx.toArray⟩] 9)).drewN 1)).heap[xb]? = some (.cells #[.string ⟨n1.toArray⟩, .slice ra ds.length rc, .string ⟨#[]⟩] 74 (0, 0))) := Lib.hid (B.heap_old xl HX.out)
      go_wp2_with fail
      go_region_law (first
        | (refine step_append rfl (.tmp 30) (.tmp 36) 72 rfl w.heap.size 9 j0 _ 1 16 Tryz.underlying72 HJ0.out HJ1.out HJ2.out HJ3.out rfl (by omega) (.slice ra ds.length rc) ds.length (vsOf ds) rfl HOD.out ⟨wr.heap.size, 0, none⟩ 1 1 [.string ⟨tx.toArray⟩] rfl rfl (fun j u hj => by rw [Addr.add_lit, Nat.zero_add]; exact B.cell_blk HNB.out (by simpa using hj)) (by intro u hu; simp at hu; subst hu; rfl) (by unfold maxLen; omega) (by omega) (by simp; omega) ?_; intro v' w9 hown' hgrow; obtain ⟨pa, pc, rfl⟩ := B.own_slice hown'; have x9 := (hgrow.block xb (B.blk_lt HXD.out) (fun e => hfar e.symm)).trans HXD.out; have HX9 := Lib.hid (B.blk_set (i := 1) (v := .slice pa (ds.length + 1) pc) x9); have HV9 := Lib.hid (B.own_set (i := 1) hown' (B.own_far hown' x9 (by decide)) (.slice pa (ds.length + 1) pc)); have HB9 := Lib.hid ((HBD.out.grown hgrow HBD.out.size (fun j hj => (HV.out.lt j hj).1)).setCell (p := ⟨xb, 1, none⟩) hxw (.slice pa (ds.length + 1) pc)); have f9 := B.frozen_blk (i := 1) x9; have q9 := B.cell_blk (i := 1) x9 rfl; have l9 := B.blk_lt x9; clear hown' hgrow x9))
      all_goals
        have HV9' := Lib.hid HV9.out
        rw [← vs_snoc] at HV9'
        go_wp2_with fail
        go_roundw
        case rel => exact ⟨m + 1, ds ++ [tx], _, hlt, by go_num, by rw [List.length_append, List.length_singleton]; omega, HS', HX9, by rw [List.length_append, List.length_singleton]; exact HV9', HB9⟩
        case measure => simp [intOf]; omega
    | false =>
      have hc : clsAt (T.map bare) m ≠ [110] := fun h => by rw [he, h] at hq; exact absurd hq (by decide)
      have hro := HS.out.stop hc
      have CO0 := optional_any wr (some ⟨tb, to_, none⟩) c T (some ⟨kb, ko, none⟩) kc m ⟨#[115, 117, 98]⟩ (Row.below HR.out (Nat.le_refl _) HB.out) (HK.out.below HB.out) hm (by rw [Lib.toList_data]; decide) hl
      rw [show (⟨#[115, 117, 98]⟩ : ByteArray).toList = kSub from by rw [Lib.toList_data]] at CO0
      have CO := Lib.hid CO0
      have HV' := Lib.hid (us_val (l := T.map bare) HN1.out HN2.out)
      have HD : Hid (dUs (T.map bare) = if (dOpt (T.map bare) kSub m).2 = true then dOpt (T.map bare) kSub m else dEnd (T.map bare) (dOpt (T.map bare) kSub m).1) := Lib.hid (by unfold dUs; rw [if_pos HN1.out, if_pos HN2.out, hro])
      rw [hro] at HV'
      simp only at HV'
      have HLE := Lib.hid (dopt_le (l := T.map bare) (x := kSub) (i := m) (by rw [HL.out]; exact hm))
      clear CO0 hc he hs hro
      unfold OpP at CO
      generalize dOptV (T.map bare) kSub m = ov at *
      generalize dOpt (T.map bare) kSub m = op at *
      obtain ⟨oi, ob⟩ := op
      simp only at CO HD HV' HLE
      cases ob with
      | true =>
        have HDD : Hid (dUs (T.map bare) = (oi, true)) := Lib.hid HD.out
        have HF := Lib.hid (sg_bad (n := oi) (gb := gb) (v := .u (usV (T.map bare))) (grown_of (gb := gb) HB.out))
        clear HD HV'
        go_wp2_with fail
        refine CO.out.mono ?_
        rintro e w8 ⟨sx, rfl, _, hw⟩
        subst hw
        go_wp2_with fail
        go_ret
        rw [HDD.out]
        exact HF.out
      | false =>
        have HDD : Hid (dUs (T.map bare) = dEnd (T.map bare) oi) := Lib.hid HD.out
        have hvv := HV'.out (by first | rfl | trivial)
        rw [HTX.out] at hvv
        have HVU := Lib.hid hvv
        have HOLE := Lib.hid (HLE.out (by first | rfl | trivial))
        clear hvv HD HV' HLE
        go_wp2_with fail
        refine CO.out.mono ?_
        rintro e w8 ⟨sx, rfl, hsx, hw⟩
        subst hw
        have HSX := Lib.hid (hsx (by first | rfl | trivial))
        clear hsx CO
        obtain ⟨W, hW⟩ : ∃ W, W = wr.setCell ⟨xb, 2, none⟩ (.string sx) := ⟨_, rfl⟩
        have HWX := Lib.hid (show W.heap[xb]? = some (.cells #[.string ⟨n1.toArray⟩, .slice ra ds.length rc, .string sx] 74 (0, 0)) by rw [hW]; exact B.blk_set HX.out)
        have HWB := Lib.hid (show Below w.heap.size w W by rw [hW]; exact HB.out.setCell (p := ⟨xb, 2, none⟩) hxw _)
        have HWV := Lib.hid (show W.ownsRow w.heap.size 9 1 (.slice ra ds.length rc) ds.length (vsOf ds) by rw [hW]; exact B.own_set HV.out (B.own_far HV.out HX.out (by decide)) _)
        have y0 := B.cell_blk (i := 0) HWX.out rfl
        have y1 := B.cell_blk (i := 1) HWX.out rfl
        have y2 := B.cell_blk (i := 2) HWX.out rfl
        have yl := B.blk_lt HWX.out
        have HGW := Lib.hid ((HWB.out.block gb (B.blk_lt HG.out)).trans HG.out)
        have g3 := B.cell_blk (i := 3) HGW.out rfl
        have gl0 := B.blk_lt HG.out
        have gl := B.blk_lt HGW.out
        have HX1 := Lib.hid (B.heap_new W (.cells #[.string ⟨n1.toArray⟩, .slice ra ds.length rc, .string sx] 74))
        have hws := HWB.out.size
        have HOR := Lib.hid (B.own_below HWV.out (B.below_draws ((Below.refl W.heap.size W).alloc (Nat.le_refl _) (.cells #[.string ⟨n1.toArray⟩, .slice ra ds.length rc, .string sx] 74)) 1))
        go_wp2_with fail
        rw [← hW]
        clear hW x0 x1 x2 xf1 xf2 xl hq
        go_region_law (first
          | (refine step_append rfl (.tmp 58) (.tmp 60) 26 rfl w.heap.size 74 i0 _ 3 56 Tryz.underlying26 HI0.out HI1.out HI2.out HI3.out rfl (by omega) (.slice none 0 0) 0 [] rfl (World.ownsRow_nil _ _ _ _) ⟨W.heap.size, 0, none⟩ 1 1 [.string ⟨n1.toArray⟩, .slice ra ds.length rc, .string sx] rfl rfl (fun j u hj => by rw [Addr.add_lit, Nat.zero_add]; exact B.cell_blk HX1.out (by simpa using hj)) (by intro u hu; simp at hu; rcases hu with rfl | rfl | rfl <;> rfl) (by unfold maxLen; omega) (by omega) (by simp; omega) ?_; intro v' w9 hown' hgrow; obtain ⟨pa, pc, rfl⟩ := B.own_slice hown'; obtain ⟨p1, p2, p3⟩ := after_put (i := 3) (v' := .slice pa 1 pc) (B.below_draws (HWB.out.alloc hws _) 1) HG.out hgrow; have HP1 := Lib.hid p1; have HP2 := Lib.hid p2; have HOW := Lib.hid (B.own_set (i := 3) hown' (own_off hown' gl0) (.slice pa 1 pc)); have hor9 := B.own_below HOR.out (below_none hgrow); have HOR9 := Lib.hid (B.own_set (i := 3) hor9 (own_off hor9 gl0) (.slice pa 1 pc)); have f9 := B.frozen_blk (i := 3) p3; have q9 := B.cell_blk (i := 3) p3 rfl; have l9 := B.blk_lt p3; clear hown' hgrow p1 p2 p3 hor9))
        all_goals
          have CE := ends_any _ (some ⟨kb, ko, none⟩) kc (T.map bare) oi (row_grown HK.out HFK.out HP1.out) HOLE.out
          rw [HL.out] at CE
          have HCE := Lib.hid CE
          clear CE
          go_wp2_with fail
          refine HCE.out.mono ?_
          rintro e w8 ⟨rfl, hw⟩
          subst hw
          go_wp2_with fail
          go_ret
          rw [HDD.out, HVU.out]
          exact ⟨HP1.out, rfl, fun _ => ⟨_, _, _, _, HP2.out, gro_us (by rw [show bytes ov = sx from (of_list HSX.out).symm]; exact HOW.out) HOR9.out⟩⟩
end Go.Proofs.YtjgcjnkeeiaafaaGreatDoor.P3.D
