/-
  Contract of the document's own relation.
-/
import Derived.Test.YtjgcjnkeeiaafaaGreatDoorTcci
import Derived.Test.YtjgcjnkeeiaafaaGreatDoorTcdc
namespace Go.Proofs.YtjgcjnkeeiaafaaGreatDoor.P3.D
open Go.RowKit Go.Shelf Go.Proofs.YtjgcjnkeeiaafaaGreatDoor Go.Proofs.YtjgcjnkeeiaafaaGreatDoor.P3 Go.Proofs.YtjgcjnkeeiaafaaGreatDoor.P3.C Go.Proofs.YtjgcjnkeeiaafaaGreatDoor.P3.L Go.Proofs.YtjgcjnkeeiaafaaGreatDoor.Lx
theorem info_rl : (Tryz.prog.info? 42).map (fun i => (i.zero, i.size, i.bytes)) = some (some (.agg #[.int .i64 0, .string ⟨#[]⟩, .string ⟨#[]⟩, .int .i64 0]), 4, 48) := by kernel_rfl
theorem kind_cls {L : List B3} (h : kindV L (0, false) ≠ 0) : ∃ kn : Nat, kindV L (0, false) = kn ∧ 1 ≤ kn ∧ kn ≤ 5 ∧ clsAt L 0 = kwB kn := by
  have hne : ∀ k, kwB k ≠ [46] := by intro k; unfold kwB; split <;> (try split) <;> (try split) <;> (try split) <;> decide
  unfold kindV at h ⊢
  simp only [see_cls (hne _)] at h ⊢
  split at h
  · rename_i h1; exact ⟨1, by rw [if_pos h1]; rfl, by decide, by decide, eq_of_beq h1⟩
  · rename_i h1
    split at h
    · rename_i h2; exact ⟨2, by rw [if_neg h1, if_pos h2]; rfl, by decide, by decide, eq_of_beq h2⟩
    · rename_i h2
      split at h
      · rename_i h3; exact ⟨3, by rw [if_neg h1, if_neg h2, if_pos h3]; rfl, by decide, by decide, eq_of_beq h3⟩
      · rename_i h3
        split at h
        · rename_i h4; exact ⟨4, by rw [if_neg h1, if_neg h2, if_neg h3, if_pos h4]; rfl, by decide, by decide, eq_of_beq h4⟩
        · rename_i h4
          split at h
          · rename_i h5; exact ⟨5, by rw [if_neg h1, if_neg h2, if_neg h3, if_neg h4, if_pos h5]; rfl, by decide, by decide, eq_of_beq h5⟩
          · exact absurd rfl h
theorem kwB_inj {a b : Nat} (h1 : 1 ≤ a) (h5 : a ≤ 5) (g1 : 1 ≤ b) (g5 : b ≤ 5) (h : kwB (a : Int) = kwB (b : Int)) : a = b := by
  have ha : a = 1 ∨ a = 2 ∨ a = 3 ∨ a = 4 ∨ a = 5 := by omega
  have hb : b = 1 ∨ b = 2 ∨ b = 3 ∨ b = 4 ∨ b = 5 := by omega
  rcases ha with rfl | rfl | rfl | rfl | rfl <;> rcases hb with rfl | rfl | rfl | rfl | rfl <;> first | rfl | exact absurd h (by decide)
theorem gro_rl {B : Nat} {W : World} {z2 : Value} {k t : Int} {a b : List UInt8} (h : W.ownsRow B 42 4 z2 1 (rlC ⟨k, bytes a, bytes b, t⟩)) : GrO B [.r ⟨k, a, b, t⟩] nilV nilV z2 nilV W :=
  ⟨[], rfl, World.ownsRow_nil _ _ _ _, World.ownsRow_nil _ _ _ _, h, World.ownsRow_nil _ _ _ _, fun _ h => nomatch h⟩
set_option maxRecDepth 100000 in
set_option maxHeartbeats 8000000 in
theorem rrelation_any (w : World) (gb : Nat) (A : Option Addr) (c : Nat) (T : List Tok) (KA : Option Addr) (kc : Nat) (hg : w.heap[gb]? = some (.cells #[nilV, nilV, nilV, nilV] 28 (0, 0))) (hR : Row w A (rowC T)) (hK : KR w KA (T.map bare))
    (hfA : Far gb A) (hfK : Far gb KA) (hl : T.length ≤ 1000000) (h1 : 1 ≤ T.length) (hk : kindV (T.map bare) (0, false) ≠ 0) :
    Calls Tryz.prog 43 #[.pointer (some ⟨gb, 0, none⟩), .slice A T.length c, .slice KA (T.length + 1) kc] w (SgP gb (dRl (T.map bare) (kindV (T.map bare) (0, false))) (.r (rlV (T.map bare))) w) := by
  obtain ⟨i0, hi0, hi1, hi2, hi3⟩ := info_parts info_rl
  have HI0 := Lib.hid hi0
  have HI1 := Lib.hid hi1
  have HI2 := Lib.hid hi2
  have HI3 := Lib.hid hi3
  clear hi0 hi1 hi2 hi3
  have hlen : (T.map bare).length = T.length := List.length_map ..
  obtain ⟨kn, hkn, hk1, hk5, hk0⟩ := kind_cls hk
  have HK := Lib.hid hK
  have HR := Lib.hid hR
  have HFK := Lib.hid hfK
  have HG := Lib.hid hg
  have HL := Lib.hid hlen
  have HV := Lib.hid (rl_val (l := T.map bare) hk)
  obtain ⟨w1, hw1⟩ : ∃ w1, w1 = w.alloc (.cells #[.string ⟨#[110]⟩, .string ⟨#[110]⟩] 9) := ⟨_, rfl⟩
  have hb1 : Below w.heap.size w w1 := by rw [hw1]; exact (Below.refl _ _).alloc (Nat.le_refl _) _
  have HW1 := Lib.hid (show Row w1 (some ⟨w.heap.size, 0, none⟩) [.string ⟨#[110]⟩, .string ⟨#[110]⟩] by
    rw [hw1]; exact fun _ => ⟨_, 0, rfl, by simp, fun j u hj => by rw [Nat.zero_add]; exact B.cell_blk (B.heap_new _ _) (by rw [← hj]; simp)⟩)
  have CF := fits_any w1 KA kc (T.map bare) 1 (some ⟨w.heap.size, 0, none⟩) 2 ⟨#[110]⟩ ⟨#[110]⟩ (hK.below hb1) HW1.out (by rw [hlen]; exact h1) (by rw [Lib.toList_data]; decide) (by rw [hlen]; exact hl)
  rw [hlen, show (⟨#[110]⟩ : ByteArray).toList = [110] from by rw [Lib.toList_data]] at CF
  have HCF := Lib.hid CF
  have HB1 := Lib.hid hb1
  have hz1 : w1.heap.size = w.heap.size + 1 := by rw [hw1, World.size_alloc]
  clear CF hb1
  by_cases hn1 : clsAt (T.map bare) 1 = [110]
  case neg =>
    have HN : Hid (fitN (T.map bare) [110] [110] 1 = 0) := Lib.hid (by unfold fitN; rw [if_neg hn1])
    have HD : Hid (dRl (T.map bare) (kindV (T.map bare) (0, false)) = (1, true)) := Lib.hid (by unfold dRl; rw [if_neg hn1])
    rw [HD.out]
    have HP := Lib.hid (fun w2 (hb : Below w1.heap.size w1 w2) => sg_bad (n := 1) (gb := gb) (v := .r (rlV (T.map bare))) (grown_of (gb := gb) (HB1.out.trans (hb.mono HB1.out.size))))
    generalize SgP gb (1, true) (.r (rlV (T.map bare))) w = SP at *
    clear hn1 hk0 hkn hk HV hK hR hg
    go_enter Tryz.func43, Tryz.ntmps43
    go_wp2_with fail
    rw [← hw1]
    refine HCF.out.mono ?_
    rintro e w2 ⟨rfl, hb2⟩
    rw [HN.out]
    have HF := Lib.hid (HP.out w2 hb2)
    clear hb2
    go_wp2_with fail
    first | exact HF.out | (go_ret; exact HF.out)
  by_cases hn2 : clsAt (T.map bare) 2 = [110]
  case neg =>
    have HN : Hid (fitN (T.map bare) [110] [110] 1 = 1) := Lib.hid (by unfold fitN; rw [if_pos hn1, if_neg hn2])
    have HD : Hid (dRl (T.map bare) (kindV (T.map bare) (0, false)) = (2, true)) := Lib.hid (by unfold dRl; rw [if_pos hn1, if_neg hn2])
    rw [HD.out]
    have HP := Lib.hid (fun w2 (hb : Below w1.heap.size w1 w2) => sg_bad (n := 2) (gb := gb) (v := .r (rlV (T.map bare))) (grown_of (gb := gb) (HB1.out.trans (hb.mono HB1.out.size))))
    generalize SgP gb (2, true) (.r (rlV (T.map bare))) w = SP at *
    clear hn1 hn2 hk0 hkn hk HV hK hR hg
    go_enter Tryz.func43, Tryz.ntmps43
    go_wp2_with fail
    rw [← hw1]
    refine HCF.out.mono ?_
    rintro e w2 ⟨rfl, hb2⟩
    rw [HN.out]
    have HF := Lib.hid (HP.out w2 hb2)
    clear hb2
    go_wp2_with fail
    first | exact HF.out | (go_ret; exact HF.out)
  have HN : Hid (fitN (T.map bare) [110] [110] 1 = 2) := Lib.hid (by unfold fitN; rw [if_pos hn1, if_pos hn2])
  have hT3 : 2 < T.length := by rw [← hlen]; exact at_lt (by rw [hn2]; decide)
  obtain ⟨tb, to_, rfl, htb, htc⟩ := tok_at hR hT3
  obtain ⟨_, t1, _, _⟩ := htc 1 (by omega)
  obtain ⟨_, t2, _, _⟩ := htc 2 hT3
  have hv := HV.out hn1 hn2
  rw [hkn, txt_at (by omega), txt_at hT3] at hv
  have HVV := Lib.hid hv
  obtain ⟨kb, ko, rfl, hkb, hkc⟩ := hK.at_
  obtain ⟨s0, hs0, he0⟩ := hkc 0 (Nat.zero_le _)
  obtain ⟨s3, hs3, he3⟩ := hkc 3 (by rw [hlen]; omega)
  have HS0 := Lib.hid (he0.trans hk0)
  have hT1 : (1 : Int) < (T.length : Int) := by omega
  have hT2 : (2 : Int) < (T.length : Int) := by omega
  have hK0 : (0 : Int) < ((T.length + 1 : Nat) : Int) := by omega
  have hK3 : (3 : Int) < ((T.length + 1 : Nat) : Int) := by omega
  rw [hkn]
  clear htc hv hkc he0 hk0 HV
  generalize T[1]!.text = n1 at *
  generalize T[2]!.text = n2 at *
  go_enter Tryz.func43, Tryz.ntmps43
  go_wp2_with fail
  rw [← hw1]
  clear hw1
  refine HCF.out.mono ?_
  rintro e w2 ⟨rfl, hb2⟩
  rw [HN.out]
  have HB2 := Lib.hid (HB1.out.trans (hb2.mono HB1.out.size))
  have hz2 := HB2.out.size
  clear hb2 HCF HW1 HN
  obtain ⟨w3, hw3⟩ : ∃ w3, w3 = w2.alloc kwO := ⟨_, rfl⟩
  have HB3 := Lib.hid (show Below w.heap.size w w3 by rw [hw3]; exact HB2.out.alloc hz2 kwO)
  have HK3 := Lib.hid (show w3.heap[w2.heap.size]? = some kwO by rw [hw3]; exact B.heap_new _ _)
  have hz3 : w3.heap.size = w2.heap.size + 1 := by rw [hw3, World.size_alloc]
  have t1 := (HB3.out.cell (p := ⟨tb, _, none⟩) htb).trans t1
  have t2 := (HB3.out.cell (p := ⟨tb, _, none⟩) htb).trans t2
  have htb3 : tb < w3.heap.size := by omega
  simp only [Nat.reduceMul, Nat.one_mul] at t1 t2
  clear hz3 hz1
  obtain ⟨bw, hbw⟩ : ∃ bw, bw = w2.heap.size := ⟨_, rfl⟩
  rw [← hbw] at HK3
  go_wp2_with fail
  rw [show w2.alloc _ = w3 from hw3.symm, ← hbw]
  clear hw3 hbw
  go_region
  obtain ⟨xb, hxb⟩ : ∃ xb, xb = w3.heap.size := ⟨_, rfl⟩
  obtain ⟨wx, hwx⟩ : ∃ wx, wx = (w3.alloc (.cells #[.int .i64 0, .string ⟨n1.toArray⟩, .string ⟨n2.toArray⟩, .int .i64 0] 42)).drew := ⟨_, rfl⟩
  rw [← hwx, ← hxb]
  have HBX := Lib.hid (show wx.heap[xb]? = some (.cells #[.int .i64 0, .string ⟨n1.toArray⟩, .string ⟨n2.toArray⟩, .int .i64 0] 42 (0, 0)) by rw [hwx, hxb]; exact B.heap_new _ _)
  have HB4 := Lib.hid (show Below w.heap.size w wx by rw [hwx]; exact B.below_draws (HB3.out.alloc HB3.out.size _) 1)
  have HKX := Lib.hid (show wx.heap[bw]? = some kwO by rw [hwx]; exact B.heap_old (B.blk_lt HK3.out) HK3.out)
  have hbx : bw < xb := by rw [hxb]; exact B.blk_lt HK3.out
  have hkx : kb < xb := by rw [hxb]; have := HB3.out.size; omega
  have htx : tb < xb := by rw [hxb]; exact htb3
  have hwx' : w.heap.size ≤ xb := by rw [hxb]; exact HB3.out.size
  have hxl := B.blk_lt HBX.out
  have HX0 : Hid (Below xb wx wx) := Lib.hid (Below.refl _ _)
  have HBX0 : Hid (wx.heap[xb]? = some (.cells #[.int .i64 (if kn < 1 then (kn : Int) else 0), .string ⟨n1.toArray⟩, .string ⟨n2.toArray⟩, .int .i64 0] 42 (0, 0))) := Lib.hid (by rw [if_neg (by omega)]; exact HBX.out)
  clear hwx hxb htb3 t1 t2
  go_wp2_with fail
  go_loopw [10] (fun i wr => ∃ m : Nat, 1 ≤ m ∧ m ≤ 6 ∧ i = .int .i64 m ∧ Hid (wr.heap[xb]? = some (.cells #[.int .i64 (if kn < m then (kn : Int) else 0), .string ⟨n1.toArray⟩, .string ⟨n2.toArray⟩, .int .i64 0] 42 (0, 0))) ∧ Hid (Below xb wx wr)) (fun i _ => 6 - (intOf i).toNat)
  case atStart => exact ⟨1, by decide, by decide, rfl, HBX0, HX0⟩
  case round =>
    obtain ⟨m, hm1, hm6, rfl, HM, HX⟩ := hrel
    have hxs := HX.out.size
    by_cases hlt : m < 6
    · obtain ⟨_, ks, hmn, _, hkc, hks, _⟩ := kw_at (m : Int) (by omega) (by omega)
      obtain rfl := Int.ofNat.inj hmn
      have q1 := (HX.out.cell (p := ⟨bw, m, none⟩) hbx).trans (B.cell_blk (i := m) HKX.out hkc)
      have q2 := (HX.out.cell (p := ⟨kb, ko, none⟩) hkx).trans ((HB4.out.cell (p := ⟨kb, ko, none⟩) hkb).trans hs0)
      have f1 := B.cell_blk (i := 0) HM.out rfl
      have f2 := B.frozen_blk (i := 0) HM.out
      have f3 := B.blk_lt HM.out
      have hm0 : (0 : Int) ≤ (m : Int) := Int.natCast_nonneg _
      have hm6' : (m : Int) < 6 := by omega
      have hbl : bw < wr.heap.size := by omega
      have hkl : kb < wr.heap.size := by omega
      have HXd := Lib.hid (B.below_draws HX.out 1)
      cases hq : (ks.toList == s0.toList) with
      | true =>
        have he : m = kn := kwB_inj hm1 (by omega) hk1 hk5 (by rw [← HS0.out, ← eq_of_beq hq, Lib.toList_data]; exact hks.symm)
        have HM' : Hid ((wr.drew.setCell ⟨xb, 0, none⟩ (.int .i64 (m : Int))).heap[xb]? = some (.cells #[.int .i64 (if kn < m + 1 then (kn : Int) else 0), .string ⟨n1.toArray⟩, .string ⟨n2.toArray⟩, .int .i64 0] 42 (0, 0))) := Lib.hid (by
          rw [if_pos (by omega), ← he]; exact B.blk_set (w := wr.drew) HM.out)
        have HX' := Lib.hid (HXd.out.setCell (p := ⟨xb, 0, none⟩) (Nat.le_refl _) (.int .i64 (m : Int)))
        clear he hks hkc hmn
        go_wp2_with fail
        go_still_tail 7, (by kernel_rfl)
        repeat still_step
        try refine wpStill_nil ?_
        change wpList _ _ _ _ _ wr.drew
        go_wp2_with fail
        go_roundw
        case rel => exact ⟨m + 1, by omega, by omega, by go_num, HM', HX'⟩
        case measure => simp [intOf]; omega
      | false =>
        have HM' : Hid (wr.drew.heap[xb]? = some (.cells #[.int .i64 (if kn < m + 1 then (kn : Int) else 0), .string ⟨n1.toArray⟩, .string ⟨n2.toArray⟩, .int .i64 0] 42 (0, 0))) := Lib.hid (by
          have hne : kn ≠ m := fun h => by
            have e : ks.toList = s0.toList := by rw [HS0.out, h, Lib.toList_data]; exact hks
            rw [e, beq_self_eq_true] at hq; cases hq
          have e : (if kn < m + 1 then (kn : Int) else 0) = if kn < m then (kn : Int) else 0 := by
            by_cases h : kn < m
            · rw [if_pos h, if_pos (by omega)]
            · rw [if_neg h, if_neg (by omega)]
          rw [e]; exact HM.out)
        clear hks hkc hmn
        go_wp2_with fail
        go_still_tail 7, (by kernel_rfl)
        repeat still_step
        try refine wpStill_nil ?_
        change wpList _ _ _ _ _ wr.drew
        go_wp2_with fail
        go_roundw
        case rel => exact ⟨m + 1, by omega, by omega, by go_num, HM', HXd⟩
        case measure => simp [intOf]; omega
    · obtain rfl : m = 6 := by omega
      have HML : Hid (wr.heap[xb]? = some (.cells #[.int .i64 (kn : Int), .string ⟨n1.toArray⟩, .string ⟨n2.toArray⟩, .int .i64 0] 42 (0, 0))) := Lib.hid (by have h := HM.out; rw [if_pos (by omega)] at h; exact h)
      have HBL := Lib.hid (HB4.out.trans (HX.out.mono hwx'))
      have q3 := (HBL.out.cell (p := ⟨kb, ko + 3, none⟩) hkb).trans hs3
      have hkl : kb < wr.heap.size := by omega
      have htl : tb < wr.heap.size := by omega
      clear HM HBX0 HX0 hs0 hs3
      have hkk : kn = 1 ∨ kn = 2 ∨ kn = 3 ∨ kn = 4 ∨ kn = 5 := by omega
      have HC3 : Hid (∀ h : clsAt (T.map bare) 3 = [100], 3 < T.length) := Lib.hid (fun h => by rw [← hlen]; exact at_lt (by rw [h]; decide))
      cases hq3 : (s3.toList == [100]) with
      | true =>
        have hc3 : clsAt (T.map bare) 3 = [100] := he3.symm.trans (eq_of_beq hq3)
        clear he3
        have ht3 := HC3.out hc3
        obtain ⟨tb', to', htt, _, htc⟩ := tok_at HR.out ht3
        simp only [Option.some.injEq, Addr.mk.injEq, and_true] at htt
        obtain ⟨rfl, rfl⟩ := htt
        obtain ⟨_, _, v3c, _⟩ := htc 3 ht3
        have v3c := (HBL.out.cell (p := ⟨tb, _, none⟩) htb).trans v3c
        simp only [Nat.reduceMul] at v3c
        have hT3' : (3 : Int) < (T.length : Int) := by omega
        obtain ⟨v3, hv3⟩ : ∃ v3, v3 = T[3]!.val := ⟨_, rfl⟩
        rw [← hv3] at v3c
        clear htc HC3
        rcases hkk with rfl | rfl | rfl | rfl | rfl
        · have HD : Hid (dRl (T.map bare) ((1 : Nat) : Int) = dEnd (T.map bare) 4) := Lib.hid (by unfold dRl; rw [if_pos hn1, if_pos hn2, if_pos ⟨by decide, hc3⟩])
          have HTM : Hid (dTimeV (T.map bare) ((1 : Nat) : Int) = (v3 : Int)) := Lib.hid (by unfold dTimeV; rw [if_pos ⟨by decide, hc3⟩, val_at ht3, ← hv3])
          clear hc3 hv3
          have x0 := B.cell_blk (i := 0) HML.out rfl
          have x3 := B.cell_blk (i := 3) HML.out rfl
          have xf := B.frozen_blk (i := 3) HML.out
          have xl := B.blk_lt HML.out
          obtain ⟨W, hW⟩ : ∃ W, W = (wr.setCell ⟨xb, 3, none⟩ (.int .i64 (v3 : Int))) := ⟨_, rfl⟩
          have HWX := Lib.hid (show W.heap[xb]? = some (.cells #[.int .i64 1, .string ⟨n1.toArray⟩, .string ⟨n2.toArray⟩, .int .i64 (v3 : Int)] 42 (0, 0)) by rw [hW]; exact (B.blk_set (i := 3) (v := (.int .i64 (v3 : Int))) HML.out))
          have HWB := Lib.hid (show Below w.heap.size w W by rw [hW]; exact (HBL.out.setCell (p := ⟨xb, 3, none⟩) hwx' (.int .i64 (v3 : Int))))
          have y0 := B.cell_blk (i := 0) HWX.out rfl
          have y1 := B.cell_blk (i := 1) HWX.out rfl
          have y2 := B.cell_blk (i := 2) HWX.out rfl
          have y3 := B.cell_blk (i := 3) HWX.out rfl
          have yl := B.blk_lt HWX.out
          have HGW := Lib.hid ((HWB.out.block gb (B.blk_lt HG.out)).trans HG.out)
          have g2 := B.cell_blk (i := 2) HGW.out rfl
          have gl0 := B.blk_lt HG.out
          have gl := B.blk_lt HGW.out
          have HX1 := Lib.hid (B.heap_new W (.cells #[.int .i64 1, .string ⟨n1.toArray⟩, .string ⟨n2.toArray⟩, .int .i64 (v3 : Int)] 42))
          go_wp2_with fail
          rw [← hW]
          clear hW x0 x3 xf xl
          have hws := HWB.out.size
          go_region_law (first
            | (refine step_append rfl (.tmp 65) (.tmp 67) 25 rfl w.heap.size 42 i0 _ 4 48 Tryz.underlying25 HI0.out HI1.out HI2.out HI3.out rfl (by omega) (.slice none 0 0) 0 [] rfl (World.ownsRow_nil _ _ _ _) ⟨W.heap.size, 0, none⟩ 1 1 [.int .i64 1, .string ⟨n1.toArray⟩, .string ⟨n2.toArray⟩, .int .i64 (v3 : Int)] rfl rfl (fun j u hj => by rw [Addr.add_lit, Nat.zero_add]; exact B.cell_blk HX1.out (by simpa using hj)) (by intro u hu; simp at hu; rcases hu with rfl | rfl | rfl | rfl <;> rfl) (by unfold maxLen; omega) (by omega) (by simp; omega) ?_; intro v' w9 hown' hgrow; obtain ⟨pa, pc, rfl⟩ := B.own_slice hown'; obtain ⟨p1, p2, p3⟩ := after_put (i := 2) (v' := .slice pa 1 pc) (B.below_draws (HWB.out.alloc hws _) 1) HG.out hgrow; have HP1 := Lib.hid p1; have HP2 := Lib.hid p2; have HOW := Lib.hid (B.own_set (i := 2) hown' (own_off hown' gl0) (.slice pa 1 pc)); have f9 := B.frozen_blk (i := 2) p3; have q9 := B.cell_blk (i := 2) p3 rfl; have l9 := B.blk_lt p3; clear hown' hgrow p1 p2 p3))
          all_goals
            have CE := ends_any _ (some ⟨kb, ko, none⟩) kc (T.map bare) 4 (row_grown HK.out HFK.out HP1.out) (by rw [HL.out]; omega)
            rw [HL.out] at CE
            have HCE := Lib.hid CE
            clear CE
            go_wp2_with fail
            refine HCE.out.mono ?_
            rintro e w8 ⟨rfl, hw⟩
            subst hw
            go_wp2_with fail
            go_ret
            rw [HD.out, HVV.out, HTM.out]
            exact ⟨HP1.out, rfl, fun _ => ⟨_, _, _, _, HP2.out, gro_rl HOW.out⟩⟩
        · have HD : Hid (dRl (T.map bare) ((2 : Nat) : Int) = dEnd (T.map bare) 4) := Lib.hid (by unfold dRl; rw [if_pos hn1, if_pos hn2, if_pos ⟨by decide, hc3⟩])
          have HTM : Hid (dTimeV (T.map bare) ((2 : Nat) : Int) = (v3 : Int)) := Lib.hid (by unfold dTimeV; rw [if_pos ⟨by decide, hc3⟩, val_at ht3, ← hv3])
          clear hc3 hv3
          have x0 := B.cell_blk (i := 0) HML.out rfl
          have x3 := B.cell_blk (i := 3) HML.out rfl
          have xf := B.frozen_blk (i := 3) HML.out
          have xl := B.blk_lt HML.out
          obtain ⟨W, hW⟩ : ∃ W, W = ((wr.setCell ⟨xb, 3, none⟩ (.int .i64 1048576)).setCell ⟨xb, 3, none⟩ (.int .i64 (v3 : Int))) := ⟨_, rfl⟩
          have HWX := Lib.hid (show W.heap[xb]? = some (.cells #[.int .i64 2, .string ⟨n1.toArray⟩, .string ⟨n2.toArray⟩, .int .i64 (v3 : Int)] 42 (0, 0)) by rw [hW]; exact (B.blk_set (i := 3) (v := (.int .i64 (v3 : Int))) (B.blk_set (i := 3) (v := (.int .i64 1048576)) HML.out)))
          have HWB := Lib.hid (show Below w.heap.size w W by rw [hW]; exact ((HBL.out.setCell (p := ⟨xb, 3, none⟩) hwx' (.int .i64 1048576)).setCell (p := ⟨xb, 3, none⟩) hwx' (.int .i64 (v3 : Int))))
          have y0 := B.cell_blk (i := 0) HWX.out rfl
          have y1 := B.cell_blk (i := 1) HWX.out rfl
          have y2 := B.cell_blk (i := 2) HWX.out rfl
          have y3 := B.cell_blk (i := 3) HWX.out rfl
          have yl := B.blk_lt HWX.out
          have HGW := Lib.hid ((HWB.out.block gb (B.blk_lt HG.out)).trans HG.out)
          have g2 := B.cell_blk (i := 2) HGW.out rfl
          have gl0 := B.blk_lt HG.out
          have gl := B.blk_lt HGW.out
          have HX1 := Lib.hid (B.heap_new W (.cells #[.int .i64 2, .string ⟨n1.toArray⟩, .string ⟨n2.toArray⟩, .int .i64 (v3 : Int)] 42))
          go_wp2_with fail
          rw [← hW]
          clear hW x0 x3 xf xl
          have hws := HWB.out.size
          go_region_law (first
            | (refine step_append rfl (.tmp 65) (.tmp 67) 25 rfl w.heap.size 42 i0 _ 4 48 Tryz.underlying25 HI0.out HI1.out HI2.out HI3.out rfl (by omega) (.slice none 0 0) 0 [] rfl (World.ownsRow_nil _ _ _ _) ⟨W.heap.size, 0, none⟩ 1 1 [.int .i64 2, .string ⟨n1.toArray⟩, .string ⟨n2.toArray⟩, .int .i64 (v3 : Int)] rfl rfl (fun j u hj => by rw [Addr.add_lit, Nat.zero_add]; exact B.cell_blk HX1.out (by simpa using hj)) (by intro u hu; simp at hu; rcases hu with rfl | rfl | rfl | rfl <;> rfl) (by unfold maxLen; omega) (by omega) (by simp; omega) ?_; intro v' w9 hown' hgrow; obtain ⟨pa, pc, rfl⟩ := B.own_slice hown'; obtain ⟨p1, p2, p3⟩ := after_put (i := 2) (v' := .slice pa 1 pc) (B.below_draws (HWB.out.alloc hws _) 1) HG.out hgrow; have HP1 := Lib.hid p1; have HP2 := Lib.hid p2; have HOW := Lib.hid (B.own_set (i := 2) hown' (own_off hown' gl0) (.slice pa 1 pc)); have f9 := B.frozen_blk (i := 2) p3; have q9 := B.cell_blk (i := 2) p3 rfl; have l9 := B.blk_lt p3; clear hown' hgrow p1 p2 p3))
          all_goals
            have CE := ends_any _ (some ⟨kb, ko, none⟩) kc (T.map bare) 4 (row_grown HK.out HFK.out HP1.out) (by rw [HL.out]; omega)
            rw [HL.out] at CE
            have HCE := Lib.hid CE
            clear CE
            go_wp2_with fail
            refine HCE.out.mono ?_
            rintro e w8 ⟨rfl, hw⟩
            subst hw
            go_wp2_with fail
            go_ret
            rw [HD.out, HVV.out, HTM.out]
            exact ⟨HP1.out, rfl, fun _ => ⟨_, _, _, _, HP2.out, gro_rl HOW.out⟩⟩
        · have HD : Hid (dRl (T.map bare) ((3 : Nat) : Int) = dEnd (T.map bare) 3) := Lib.hid (by unfold dRl; rw [if_pos hn1, if_pos hn2, if_neg (fun h => absurd h.1 (by decide))])
          have HTM : Hid (dTimeV (T.map bare) ((3 : Nat) : Int) = 0) := Lib.hid (by unfold dTimeV; rw [if_neg (fun h => absurd h.1 (by decide))]; rfl)
          clear hc3 hv3
          have x0 := B.cell_blk (i := 0) HML.out rfl
          have x3 := B.cell_blk (i := 3) HML.out rfl
          have xf := B.frozen_blk (i := 3) HML.out
          have xl := B.blk_lt HML.out
          obtain ⟨W, hW⟩ : ∃ W, W = wr := ⟨_, rfl⟩
          have HWX := Lib.hid (show W.heap[xb]? = some (.cells #[.int .i64 3, .string ⟨n1.toArray⟩, .string ⟨n2.toArray⟩, .int .i64 0] 42 (0, 0)) by rw [hW]; exact HML.out)
          have HWB := Lib.hid (show Below w.heap.size w W by rw [hW]; exact HBL.out)
          have y0 := B.cell_blk (i := 0) HWX.out rfl
          have y1 := B.cell_blk (i := 1) HWX.out rfl
          have y2 := B.cell_blk (i := 2) HWX.out rfl
          have y3 := B.cell_blk (i := 3) HWX.out rfl
          have yl := B.blk_lt HWX.out
          have HGW := Lib.hid ((HWB.out.block gb (B.blk_lt HG.out)).trans HG.out)
          have g2 := B.cell_blk (i := 2) HGW.out rfl
          have gl0 := B.blk_lt HG.out
          have gl := B.blk_lt HGW.out
          have HX1 := Lib.hid (B.heap_new W (.cells #[.int .i64 3, .string ⟨n1.toArray⟩, .string ⟨n2.toArray⟩, .int .i64 0] 42))
          go_wp2_with fail
          rw [← hW]
          clear hW x0 x3 xf xl
          have hws := HWB.out.size
          go_region_law (first
            | (refine step_append rfl (.tmp 65) (.tmp 67) 25 rfl w.heap.size 42 i0 _ 4 48 Tryz.underlying25 HI0.out HI1.out HI2.out HI3.out rfl (by omega) (.slice none 0 0) 0 [] rfl (World.ownsRow_nil _ _ _ _) ⟨W.heap.size, 0, none⟩ 1 1 [.int .i64 3, .string ⟨n1.toArray⟩, .string ⟨n2.toArray⟩, .int .i64 0] rfl rfl (fun j u hj => by rw [Addr.add_lit, Nat.zero_add]; exact B.cell_blk HX1.out (by simpa using hj)) (by intro u hu; simp at hu; rcases hu with rfl | rfl | rfl | rfl <;> rfl) (by unfold maxLen; omega) (by omega) (by simp; omega) ?_; intro v' w9 hown' hgrow; obtain ⟨pa, pc, rfl⟩ := B.own_slice hown'; obtain ⟨p1, p2, p3⟩ := after_put (i := 2) (v' := .slice pa 1 pc) (B.below_draws (HWB.out.alloc hws _) 1) HG.out hgrow; have HP1 := Lib.hid p1; have HP2 := Lib.hid p2; have HOW := Lib.hid (B.own_set (i := 2) hown' (own_off hown' gl0) (.slice pa 1 pc)); have f9 := B.frozen_blk (i := 2) p3; have q9 := B.cell_blk (i := 2) p3 rfl; have l9 := B.blk_lt p3; clear hown' hgrow p1 p2 p3))
          all_goals
            have CE := ends_any _ (some ⟨kb, ko, none⟩) kc (T.map bare) 3 (row_grown HK.out HFK.out HP1.out) (by rw [HL.out]; omega)
            rw [HL.out] at CE
            have HCE := Lib.hid CE
            clear CE
            go_wp2_with fail
            refine HCE.out.mono ?_
            rintro e w8 ⟨rfl, hw⟩
            subst hw
            go_wp2_with fail
            go_ret
            rw [HD.out, HVV.out, HTM.out]
            exact ⟨HP1.out, rfl, fun _ => ⟨_, _, _, _, HP2.out, gro_rl HOW.out⟩⟩
        · have HD : Hid (dRl (T.map bare) ((4 : Nat) : Int) = dEnd (T.map bare) 3) := Lib.hid (by unfold dRl; rw [if_pos hn1, if_pos hn2, if_neg (fun h => absurd h.1 (by decide))])
          have HTM : Hid (dTimeV (T.map bare) ((4 : Nat) : Int) = 0) := Lib.hid (by unfold dTimeV; rw [if_neg (fun h => absurd h.1 (by decide))]; rfl)
          clear hc3 hv3
          have x0 := B.cell_blk (i := 0) HML.out rfl
          have x3 := B.cell_blk (i := 3) HML.out rfl
          have xf := B.frozen_blk (i := 3) HML.out
          have xl := B.blk_lt HML.out
          obtain ⟨W, hW⟩ : ∃ W, W = wr := ⟨_, rfl⟩
          have HWX := Lib.hid (show W.heap[xb]? = some (.cells #[.int .i64 4, .string ⟨n1.toArray⟩, .string ⟨n2.toArray⟩, .int .i64 0] 42 (0, 0)) by rw [hW]; exact HML.out)
          have HWB := Lib.hid (show Below w.heap.size w W by rw [hW]; exact HBL.out)
          have y0 := B.cell_blk (i := 0) HWX.out rfl
          have y1 := B.cell_blk (i := 1) HWX.out rfl
          have y2 := B.cell_blk (i := 2) HWX.out rfl
          have y3 := B.cell_blk (i := 3) HWX.out rfl
          have yl := B.blk_lt HWX.out
          have HGW := Lib.hid ((HWB.out.block gb (B.blk_lt HG.out)).trans HG.out)
          have g2 := B.cell_blk (i := 2) HGW.out rfl
          have gl0 := B.blk_lt HG.out
          have gl := B.blk_lt HGW.out
          have HX1 := Lib.hid (B.heap_new W (.cells #[.int .i64 4, .string ⟨n1.toArray⟩, .string ⟨n2.toArray⟩, .int .i64 0] 42))
          go_wp2_with fail
          rw [← hW]
          clear hW x0 x3 xf xl
          have hws := HWB.out.size
          go_region_law (first
            | (refine step_append rfl (.tmp 65) (.tmp 67) 25 rfl w.heap.size 42 i0 _ 4 48 Tryz.underlying25 HI0.out HI1.out HI2.out HI3.out rfl (by omega) (.slice none 0 0) 0 [] rfl (World.ownsRow_nil _ _ _ _) ⟨W.heap.size, 0, none⟩ 1 1 [.int .i64 4, .string ⟨n1.toArray⟩, .string ⟨n2.toArray⟩, .int .i64 0] rfl rfl (fun j u hj => by rw [Addr.add_lit, Nat.zero_add]; exact B.cell_blk HX1.out (by simpa using hj)) (by intro u hu; simp at hu; rcases hu with rfl | rfl | rfl | rfl <;> rfl) (by unfold maxLen; omega) (by omega) (by simp; omega) ?_; intro v' w9 hown' hgrow; obtain ⟨pa, pc, rfl⟩ := B.own_slice hown'; obtain ⟨p1, p2, p3⟩ := after_put (i := 2) (v' := .slice pa 1 pc) (B.below_draws (HWB.out.alloc hws _) 1) HG.out hgrow; have HP1 := Lib.hid p1; have HP2 := Lib.hid p2; have HOW := Lib.hid (B.own_set (i := 2) hown' (own_off hown' gl0) (.slice pa 1 pc)); have f9 := B.frozen_blk (i := 2) p3; have q9 := B.cell_blk (i := 2) p3 rfl; have l9 := B.blk_lt p3; clear hown' hgrow p1 p2 p3))
          all_goals
            have CE := ends_any _ (some ⟨kb, ko, none⟩) kc (T.map bare) 3 (row_grown HK.out HFK.out HP1.out) (by rw [HL.out]; omega)
            rw [HL.out] at CE
            have HCE := Lib.hid CE
            clear CE
            go_wp2_with fail
            refine HCE.out.mono ?_
            rintro e w8 ⟨rfl, hw⟩
            subst hw
            go_wp2_with fail
            go_ret
            rw [HD.out, HVV.out, HTM.out]
            exact ⟨HP1.out, rfl, fun _ => ⟨_, _, _, _, HP2.out, gro_rl HOW.out⟩⟩
        · have HD : Hid (dRl (T.map bare) ((5 : Nat) : Int) = dEnd (T.map bare) 3) := Lib.hid (by unfold dRl; rw [if_pos hn1, if_pos hn2, if_neg (fun h => absurd h.1 (by decide))])
          have HTM : Hid (dTimeV (T.map bare) ((5 : Nat) : Int) = 0) := Lib.hid (by unfold dTimeV; rw [if_neg (fun h => absurd h.1 (by decide))]; rfl)
          clear hc3 hv3
          have x0 := B.cell_blk (i := 0) HML.out rfl
          have x3 := B.cell_blk (i := 3) HML.out rfl
          have xf := B.frozen_blk (i := 3) HML.out
          have xl := B.blk_lt HML.out
          obtain ⟨W, hW⟩ : ∃ W, W = wr := ⟨_, rfl⟩
          have HWX := Lib.hid (show W.heap[xb]? = some (.cells #[.int .i64 5, .string ⟨n1.toArray⟩, .string ⟨n2.toArray⟩, .int .i64 0] 42 (0, 0)) by rw [hW]; exact HML.out)
          have HWB := Lib.hid (show Below w.heap.size w W by rw [hW]; exact HBL.out)
          have y0 := B.cell_blk (i := 0) HWX.out rfl
          have y1 := B.cell_blk (i := 1) HWX.out rfl
          have y2 := B.cell_blk (i := 2) HWX.out rfl
          have y3 := B.cell_blk (i := 3) HWX.out rfl
          have yl := B.blk_lt HWX.out
          have HGW := Lib.hid ((HWB.out.block gb (B.blk_lt HG.out)).trans HG.out)
          have g2 := B.cell_blk (i := 2) HGW.out rfl
          have gl0 := B.blk_lt HG.out
          have gl := B.blk_lt HGW.out
          have HX1 := Lib.hid (B.heap_new W (.cells #[.int .i64 5, .string ⟨n1.toArray⟩, .string ⟨n2.toArray⟩, .int .i64 0] 42))
          go_wp2_with fail
          rw [← hW]
          clear hW x0 x3 xf xl
          have hws := HWB.out.size
          go_region_law (first
            | (refine step_append rfl (.tmp 65) (.tmp 67) 25 rfl w.heap.size 42 i0 _ 4 48 Tryz.underlying25 HI0.out HI1.out HI2.out HI3.out rfl (by omega) (.slice none 0 0) 0 [] rfl (World.ownsRow_nil _ _ _ _) ⟨W.heap.size, 0, none⟩ 1 1 [.int .i64 5, .string ⟨n1.toArray⟩, .string ⟨n2.toArray⟩, .int .i64 0] rfl rfl (fun j u hj => by rw [Addr.add_lit, Nat.zero_add]; exact B.cell_blk HX1.out (by simpa using hj)) (by intro u hu; simp at hu; rcases hu with rfl | rfl | rfl | rfl <;> rfl) (by unfold maxLen; omega) (by omega) (by simp; omega) ?_; intro v' w9 hown' hgrow; obtain ⟨pa, pc, rfl⟩ := B.own_slice hown'; obtain ⟨p1, p2, p3⟩ := after_put (i := 2) (v' := .slice pa 1 pc) (B.below_draws (HWB.out.alloc hws _) 1) HG.out hgrow; have HP1 := Lib.hid p1; have HP2 := Lib.hid p2; have HOW := Lib.hid (B.own_set (i := 2) hown' (own_off hown' gl0) (.slice pa 1 pc)); have f9 := B.frozen_blk (i := 2) p3; have q9 := B.cell_blk (i := 2) p3 rfl; have l9 := B.blk_lt p3; clear hown' hgrow p1 p2 p3))
          all_goals
            have CE := ends_any _ (some ⟨kb, ko, none⟩) kc (T.map bare) 3 (row_grown HK.out HFK.out HP1.out) (by rw [HL.out]; omega)
            rw [HL.out] at CE
            have HCE := Lib.hid CE
            clear CE
            go_wp2_with fail
            refine HCE.out.mono ?_
            rintro e w8 ⟨rfl, hw⟩
            subst hw
            go_wp2_with fail
            go_ret
            rw [HD.out, HVV.out, HTM.out]
            exact ⟨HP1.out, rfl, fun _ => ⟨_, _, _, _, HP2.out, gro_rl HOW.out⟩⟩
      | false =>
        have hc3 : ¬ clsAt (T.map bare) 3 = [100] := fun h => by rw [he3, h] at hq3; exact absurd hq3 (by decide)
        clear he3
        clear HC3
        rcases hkk with rfl | rfl | rfl | rfl | rfl
        · have HD : Hid (dRl (T.map bare) ((1 : Nat) : Int) = dEnd (T.map bare) 3) := Lib.hid (by unfold dRl; rw [if_pos hn1, if_pos hn2, if_neg (fun h => hc3 h.2)])
          have HTM : Hid (dTimeV (T.map bare) ((1 : Nat) : Int) = 0) := Lib.hid (by unfold dTimeV; rw [if_neg (fun h => hc3 h.2)]; rfl)
          clear hc3
          have x0 := B.cell_blk (i := 0) HML.out rfl
          have x3 := B.cell_blk (i := 3) HML.out rfl
          have xf := B.frozen_blk (i := 3) HML.out
          have xl := B.blk_lt HML.out
          obtain ⟨W, hW⟩ : ∃ W, W = wr := ⟨_, rfl⟩
          have HWX := Lib.hid (show W.heap[xb]? = some (.cells #[.int .i64 1, .string ⟨n1.toArray⟩, .string ⟨n2.toArray⟩, .int .i64 0] 42 (0, 0)) by rw [hW]; exact HML.out)
          have HWB := Lib.hid (show Below w.heap.size w W by rw [hW]; exact HBL.out)
          have y0 := B.cell_blk (i := 0) HWX.out rfl
          have y1 := B.cell_blk (i := 1) HWX.out rfl
          have y2 := B.cell_blk (i := 2) HWX.out rfl
          have y3 := B.cell_blk (i := 3) HWX.out rfl
          have yl := B.blk_lt HWX.out
          have HGW := Lib.hid ((HWB.out.block gb (B.blk_lt HG.out)).trans HG.out)
          have g2 := B.cell_blk (i := 2) HGW.out rfl
          have gl0 := B.blk_lt HG.out
          have gl := B.blk_lt HGW.out
          have HX1 := Lib.hid (B.heap_new W (.cells #[.int .i64 1, .string ⟨n1.toArray⟩, .string ⟨n2.toArray⟩, .int .i64 0] 42))
          go_wp2_with fail
          rw [← hW]
          clear hW x0 x3 xf xl
          have hws := HWB.out.size
          go_region_law (first
            | (refine step_append rfl (.tmp 65) (.tmp 67) 25 rfl w.heap.size 42 i0 _ 4 48 Tryz.underlying25 HI0.out HI1.out HI2.out HI3.out rfl (by omega) (.slice none 0 0) 0 [] rfl (World.ownsRow_nil _ _ _ _) ⟨W.heap.size, 0, none⟩ 1 1 [.int .i64 1, .string ⟨n1.toArray⟩, .string ⟨n2.toArray⟩, .int .i64 0] rfl rfl (fun j u hj => by rw [Addr.add_lit, Nat.zero_add]; exact B.cell_blk HX1.out (by simpa using hj)) (by intro u hu; simp at hu; rcases hu with rfl | rfl | rfl | rfl <;> rfl) (by unfold maxLen; omega) (by omega) (by simp; omega) ?_; intro v' w9 hown' hgrow; obtain ⟨pa, pc, rfl⟩ := B.own_slice hown'; obtain ⟨p1, p2, p3⟩ := after_put (i := 2) (v' := .slice pa 1 pc) (B.below_draws (HWB.out.alloc hws _) 1) HG.out hgrow; have HP1 := Lib.hid p1; have HP2 := Lib.hid p2; have HOW := Lib.hid (B.own_set (i := 2) hown' (own_off hown' gl0) (.slice pa 1 pc)); have f9 := B.frozen_blk (i := 2) p3; have q9 := B.cell_blk (i := 2) p3 rfl; have l9 := B.blk_lt p3; clear hown' hgrow p1 p2 p3))
          all_goals
            have CE := ends_any _ (some ⟨kb, ko, none⟩) kc (T.map bare) 3 (row_grown HK.out HFK.out HP1.out) (by rw [HL.out]; omega)
            rw [HL.out] at CE
            have HCE := Lib.hid CE
            clear CE
            go_wp2_with fail
            refine HCE.out.mono ?_
            rintro e w8 ⟨rfl, hw⟩
            subst hw
            go_wp2_with fail
            go_ret
            rw [HD.out, HVV.out, HTM.out]
            exact ⟨HP1.out, rfl, fun _ => ⟨_, _, _, _, HP2.out, gro_rl HOW.out⟩⟩
        · have HD : Hid (dRl (T.map bare) ((2 : Nat) : Int) = dEnd (T.map bare) 3) := Lib.hid (by unfold dRl; rw [if_pos hn1, if_pos hn2, if_neg (fun h => hc3 h.2)])
          have HTM : Hid (dTimeV (T.map bare) ((2 : Nat) : Int) = 1048576) := Lib.hid (by unfold dTimeV; rw [if_neg (fun h => hc3 h.2)]; rfl)
          clear hc3
          have x0 := B.cell_blk (i := 0) HML.out rfl
          have x3 := B.cell_blk (i := 3) HML.out rfl
          have xf := B.frozen_blk (i := 3) HML.out
          have xl := B.blk_lt HML.out
          obtain ⟨W, hW⟩ : ∃ W, W = (wr.setCell ⟨xb, 3, none⟩ (.int .i64 1048576)) := ⟨_, rfl⟩
          have HWX := Lib.hid (show W.heap[xb]? = some (.cells #[.int .i64 2, .string ⟨n1.toArray⟩, .string ⟨n2.toArray⟩, .int .i64 1048576] 42 (0, 0)) by rw [hW]; exact (B.blk_set (i := 3) (v := (.int .i64 1048576)) HML.out))
          have HWB := Lib.hid (show Below w.heap.size w W by rw [hW]; exact (HBL.out.setCell (p := ⟨xb, 3, none⟩) hwx' (.int .i64 1048576)))
          have y0 := B.cell_blk (i := 0) HWX.out rfl
          have y1 := B.cell_blk (i := 1) HWX.out rfl
          have y2 := B.cell_blk (i := 2) HWX.out rfl
          have y3 := B.cell_blk (i := 3) HWX.out rfl
          have yl := B.blk_lt HWX.out
          have HGW := Lib.hid ((HWB.out.block gb (B.blk_lt HG.out)).trans HG.out)
          have g2 := B.cell_blk (i := 2) HGW.out rfl
          have gl0 := B.blk_lt HG.out
          have gl := B.blk_lt HGW.out
          have HX1 := Lib.hid (B.heap_new W (.cells #[.int .i64 2, .string ⟨n1.toArray⟩, .string ⟨n2.toArray⟩, .int .i64 1048576] 42))
          go_wp2_with fail
          rw [← hW]
          clear hW x0 x3 xf xl
          have hws := HWB.out.size
          go_region_law (first
            | (refine step_append rfl (.tmp 65) (.tmp 67) 25 rfl w.heap.size 42 i0 _ 4 48 Tryz.underlying25 HI0.out HI1.out HI2.out HI3.out rfl (by omega) (.slice none 0 0) 0 [] rfl (World.ownsRow_nil _ _ _ _) ⟨W.heap.size, 0, none⟩ 1 1 [.int .i64 2, .string ⟨n1.toArray⟩, .string ⟨n2.toArray⟩, .int .i64 1048576] rfl rfl (fun j u hj => by rw [Addr.add_lit, Nat.zero_add]; exact B.cell_blk HX1.out (by simpa using hj)) (by intro u hu; simp at hu; rcases hu with rfl | rfl | rfl | rfl <;> rfl) (by unfold maxLen; omega) (by omega) (by simp; omega) ?_; intro v' w9 hown' hgrow; obtain ⟨pa, pc, rfl⟩ := B.own_slice hown'; obtain ⟨p1, p2, p3⟩ := after_put (i := 2) (v' := .slice pa 1 pc) (B.below_draws (HWB.out.alloc hws _) 1) HG.out hgrow; have HP1 := Lib.hid p1; have HP2 := Lib.hid p2; have HOW := Lib.hid (B.own_set (i := 2) hown' (own_off hown' gl0) (.slice pa 1 pc)); have f9 := B.frozen_blk (i := 2) p3; have q9 := B.cell_blk (i := 2) p3 rfl; have l9 := B.blk_lt p3; clear hown' hgrow p1 p2 p3))
          all_goals
            have CE := ends_any _ (some ⟨kb, ko, none⟩) kc (T.map bare) 3 (row_grown HK.out HFK.out HP1.out) (by rw [HL.out]; omega)
            rw [HL.out] at CE
            have HCE := Lib.hid CE
            clear CE
            go_wp2_with fail
            refine HCE.out.mono ?_
            rintro e w8 ⟨rfl, hw⟩
            subst hw
            go_wp2_with fail
            go_ret
            rw [HD.out, HVV.out, HTM.out]
            exact ⟨HP1.out, rfl, fun _ => ⟨_, _, _, _, HP2.out, gro_rl HOW.out⟩⟩
        · have HD : Hid (dRl (T.map bare) ((3 : Nat) : Int) = dEnd (T.map bare) 3) := Lib.hid (by unfold dRl; rw [if_pos hn1, if_pos hn2, if_neg (fun h => absurd h.1 (by decide))])
          have HTM : Hid (dTimeV (T.map bare) ((3 : Nat) : Int) = 0) := Lib.hid (by unfold dTimeV; rw [if_neg (fun h => absurd h.1 (by decide))]; rfl)
          clear hc3
          have x0 := B.cell_blk (i := 0) HML.out rfl
          have x3 := B.cell_blk (i := 3) HML.out rfl
          have xf := B.frozen_blk (i := 3) HML.out
          have xl := B.blk_lt HML.out
          obtain ⟨W, hW⟩ : ∃ W, W = wr := ⟨_, rfl⟩
          have HWX := Lib.hid (show W.heap[xb]? = some (.cells #[.int .i64 3, .string ⟨n1.toArray⟩, .string ⟨n2.toArray⟩, .int .i64 0] 42 (0, 0)) by rw [hW]; exact HML.out)
          have HWB := Lib.hid (show Below w.heap.size w W by rw [hW]; exact HBL.out)
          have y0 := B.cell_blk (i := 0) HWX.out rfl
          have y1 := B.cell_blk (i := 1) HWX.out rfl
          have y2 := B.cell_blk (i := 2) HWX.out rfl
          have y3 := B.cell_blk (i := 3) HWX.out rfl
          have yl := B.blk_lt HWX.out
          have HGW := Lib.hid ((HWB.out.block gb (B.blk_lt HG.out)).trans HG.out)
          have g2 := B.cell_blk (i := 2) HGW.out rfl
          have gl0 := B.blk_lt HG.out
          have gl := B.blk_lt HGW.out
          have HX1 := Lib.hid (B.heap_new W (.cells #[.int .i64 3, .string ⟨n1.toArray⟩, .string ⟨n2.toArray⟩, .int .i64 0] 42))
          go_wp2_with fail
          rw [← hW]
          clear hW x0 x3 xf xl
          have hws := HWB.out.size
          go_region_law (first
            | (refine step_append rfl (.tmp 65) (.tmp 67) 25 rfl w.heap.size 42 i0 _ 4 48 Tryz.underlying25 HI0.out HI1.out HI2.out HI3.out rfl (by omega) (.slice none 0 0) 0 [] rfl (World.ownsRow_nil _ _ _ _) ⟨W.heap.size, 0, none⟩ 1 1 [.int .i64 3, .string ⟨n1.toArray⟩, .string ⟨n2.toArray⟩, .int .i64 0] rfl rfl (fun j u hj => by rw [Addr.add_lit, Nat.zero_add]; exact B.cell_blk HX1.out (by simpa using hj)) (by intro u hu; simp at hu; rcases hu with rfl | rfl | rfl | rfl <;> rfl) (by unfold maxLen; omega) (by omega) (by simp; omega) ?_; intro v' w9 hown' hgrow; obtain ⟨pa, pc, rfl⟩ := B.own_slice hown'; obtain ⟨p1, p2, p3⟩ := after_put (i := 2) (v' := .slice pa 1 pc) (B.below_draws (HWB.out.alloc hws _) 1) HG.out hgrow; have HP1 := Lib.hid p1; have HP2 := Lib.hid p2; have HOW := Lib.hid (B.own_set (i := 2) hown' (own_off hown' gl0) (.slice pa 1 pc)); have f9 := B.frozen_blk (i := 2) p3; have q9 := B.cell_blk (i := 2) p3 rfl; have l9 := B.blk_lt p3; clear hown' hgrow p1 p2 p3))
          all_goals
            have CE := ends_any _ (some ⟨kb, ko, none⟩) kc (T.map bare) 3 (row_grown HK.out HFK.out HP1.out) (by rw [HL.out]; omega)
            rw [HL.out] at CE
            have HCE := Lib.hid CE
            clear CE
            go_wp2_with fail
            refine HCE.out.mono ?_
            rintro e w8 ⟨rfl, hw⟩
            subst hw
            go_wp2_with fail
            go_ret
            rw [HD.out, HVV.out, HTM.out]
            exact ⟨HP1.out, rfl, fun _ => ⟨_, _, _, _, HP2.out, gro_rl HOW.out⟩⟩
        · have HD : Hid (dRl (T.map bare) ((4 : Nat) : Int) = dEnd (T.map bare) 3) := Lib.hid (by unfold dRl; rw [if_pos hn1, if_pos hn2, if_neg (fun h => absurd h.1 (by decide))])
          have HTM : Hid (dTimeV (T.map bare) ((4 : Nat) : Int) = 0) := Lib.hid (by unfold dTimeV; rw [if_neg (fun h => absurd h.1 (by decide))]; rfl)
          clear hc3
          have x0 := B.cell_blk (i := 0) HML.out rfl
          have x3 := B.cell_blk (i := 3) HML.out rfl
          have xf := B.frozen_blk (i := 3) HML.out
          have xl := B.blk_lt HML.out
          obtain ⟨W, hW⟩ : ∃ W, W = wr := ⟨_, rfl⟩
          have HWX := Lib.hid (show W.heap[xb]? = some (.cells #[.int .i64 4, .string ⟨n1.toArray⟩, .string ⟨n2.toArray⟩, .int .i64 0] 42 (0, 0)) by rw [hW]; exact HML.out)
          have HWB := Lib.hid (show Below w.heap.size w W by rw [hW]; exact HBL.out)
          have y0 := B.cell_blk (i := 0) HWX.out rfl
          have y1 := B.cell_blk (i := 1) HWX.out rfl
          have y2 := B.cell_blk (i := 2) HWX.out rfl
          have y3 := B.cell_blk (i := 3) HWX.out rfl
          have yl := B.blk_lt HWX.out
          have HGW := Lib.hid ((HWB.out.block gb (B.blk_lt HG.out)).trans HG.out)
          have g2 := B.cell_blk (i := 2) HGW.out rfl
          have gl0 := B.blk_lt HG.out
          have gl := B.blk_lt HGW.out
          have HX1 := Lib.hid (B.heap_new W (.cells #[.int .i64 4, .string ⟨n1.toArray⟩, .string ⟨n2.toArray⟩, .int .i64 0] 42))
          go_wp2_with fail
          rw [← hW]
          clear hW x0 x3 xf xl
          have hws := HWB.out.size
          go_region_law (first
            | (refine step_append rfl (.tmp 65) (.tmp 67) 25 rfl w.heap.size 42 i0 _ 4 48 Tryz.underlying25 HI0.out HI1.out HI2.out HI3.out rfl (by omega) (.slice none 0 0) 0 [] rfl (World.ownsRow_nil _ _ _ _) ⟨W.heap.size, 0, none⟩ 1 1 [.int .i64 4, .string ⟨n1.toArray⟩, .string ⟨n2.toArray⟩, .int .i64 0] rfl rfl (fun j u hj => by rw [Addr.add_lit, Nat.zero_add]; exact B.cell_blk HX1.out (by simpa using hj)) (by intro u hu; simp at hu; rcases hu with rfl | rfl | rfl | rfl <;> rfl) (by unfold maxLen; omega) (by omega) (by simp; omega) ?_; intro v' w9 hown' hgrow; obtain ⟨pa, pc, rfl⟩ := B.own_slice hown'; obtain ⟨p1, p2, p3⟩ := after_put (i := 2) (v' := .slice pa 1 pc) (B.below_draws (HWB.out.alloc hws _) 1) HG.out hgrow; have HP1 := Lib.hid p1; have HP2 := Lib.hid p2; have HOW := Lib.hid (B.own_set (i := 2) hown' (own_off hown' gl0) (.slice pa 1 pc)); have f9 := B.frozen_blk (i := 2) p3; have q9 := B.cell_blk (i := 2) p3 rfl; have l9 := B.blk_lt p3; clear hown' hgrow p1 p2 p3))
          all_goals
            have CE := ends_any _ (some ⟨kb, ko, none⟩) kc (T.map bare) 3 (row_grown HK.out HFK.out HP1.out) (by rw [HL.out]; omega)
            rw [HL.out] at CE
            have HCE := Lib.hid CE
            clear CE
            go_wp2_with fail
            refine HCE.out.mono ?_
            rintro e w8 ⟨rfl, hw⟩
            subst hw
            go_wp2_with fail
            go_ret
            rw [HD.out, HVV.out, HTM.out]
            exact ⟨HP1.out, rfl, fun _ => ⟨_, _, _, _, HP2.out, gro_rl HOW.out⟩⟩
        · have HD : Hid (dRl (T.map bare) ((5 : Nat) : Int) = dEnd (T.map bare) 3) := Lib.hid (by unfold dRl; rw [if_pos hn1, if_pos hn2, if_neg (fun h => absurd h.1 (by decide))])
          have HTM : Hid (dTimeV (T.map bare) ((5 : Nat) : Int) = 0) := Lib.hid (by unfold dTimeV; rw [if_neg (fun h => absurd h.1 (by decide))]; rfl)
          clear hc3
          have x0 := B.cell_blk (i := 0) HML.out rfl
          have x3 := B.cell_blk (i := 3) HML.out rfl
          have xf := B.frozen_blk (i := 3) HML.out
          have xl := B.blk_lt HML.out
          obtain ⟨W, hW⟩ : ∃ W, W = wr := ⟨_, rfl⟩
          have HWX := Lib.hid (show W.heap[xb]? = some (.cells #[.int .i64 5, .string ⟨n1.toArray⟩, .string ⟨n2.toArray⟩, .int .i64 0] 42 (0, 0)) by rw [hW]; exact HML.out)
          have HWB := Lib.hid (show Below w.heap.size w W by rw [hW]; exact HBL.out)
          have y0 := B.cell_blk (i := 0) HWX.out rfl
          have y1 := B.cell_blk (i := 1) HWX.out rfl
          have y2 := B.cell_blk (i := 2) HWX.out rfl
          have y3 := B.cell_blk (i := 3) HWX.out rfl
          have yl := B.blk_lt HWX.out
          have HGW := Lib.hid ((HWB.out.block gb (B.blk_lt HG.out)).trans HG.out)
          have g2 := B.cell_blk (i := 2) HGW.out rfl
          have gl0 := B.blk_lt HG.out
          have gl := B.blk_lt HGW.out
          have HX1 := Lib.hid (B.heap_new W (.cells #[.int .i64 5, .string ⟨n1.toArray⟩, .string ⟨n2.toArray⟩, .int .i64 0] 42))
          go_wp2_with fail
          rw [← hW]
          clear hW x0 x3 xf xl
          have hws := HWB.out.size
          go_region_law (first
            | (refine step_append rfl (.tmp 65) (.tmp 67) 25 rfl w.heap.size 42 i0 _ 4 48 Tryz.underlying25 HI0.out HI1.out HI2.out HI3.out rfl (by omega) (.slice none 0 0) 0 [] rfl (World.ownsRow_nil _ _ _ _) ⟨W.heap.size, 0, none⟩ 1 1 [.int .i64 5, .string ⟨n1.toArray⟩, .string ⟨n2.toArray⟩, .int .i64 0] rfl rfl (fun j u hj => by rw [Addr.add_lit, Nat.zero_add]; exact B.cell_blk HX1.out (by simpa using hj)) (by intro u hu; simp at hu; rcases hu with rfl | rfl | rfl | rfl <;> rfl) (by unfold maxLen; omega) (by omega) (by simp; omega) ?_; intro v' w9 hown' hgrow; obtain ⟨pa, pc, rfl⟩ := B.own_slice hown'; obtain ⟨p1, p2, p3⟩ := after_put (i := 2) (v' := .slice pa 1 pc) (B.below_draws (HWB.out.alloc hws _) 1) HG.out hgrow; have HP1 := Lib.hid p1; have HP2 := Lib.hid p2; have HOW := Lib.hid (B.own_set (i := 2) hown' (own_off hown' gl0) (.slice pa 1 pc)); have f9 := B.frozen_blk (i := 2) p3; have q9 := B.cell_blk (i := 2) p3 rfl; have l9 := B.blk_lt p3; clear hown' hgrow p1 p2 p3))
          all_goals
            have CE := ends_any _ (some ⟨kb, ko, none⟩) kc (T.map bare) 3 (row_grown HK.out HFK.out HP1.out) (by rw [HL.out]; omega)
            rw [HL.out] at CE
            have HCE := Lib.hid CE
            clear CE
            go_wp2_with fail
            refine HCE.out.mono ?_
            rintro e w8 ⟨rfl, hw⟩
            subst hw
            go_wp2_with fail
            go_ret
            rw [HD.out, HVV.out, HTM.out]
            exact ⟨HP1.out, rfl, fun _ => ⟨_, _, _, _, HP2.out, gro_rl HOW.out⟩⟩
end Go.Proofs.YtjgcjnkeeiaafaaGreatDoor.P3.D
