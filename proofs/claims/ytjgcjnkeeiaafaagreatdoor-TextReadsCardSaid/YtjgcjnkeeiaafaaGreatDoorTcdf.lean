/-
  Contract of the document's own events (gen_tug.py).
-/
import Derived.Test.YtjgcjnkeeiaafaaGreatDoorTcci
namespace Go.Proofs.YtjgcjnkeeiaafaaGreatDoor.P3.D
open Go.RowKit Go.Shelf Go.Proofs.YtjgcjnkeeiaafaaGreatDoor Go.Proofs.YtjgcjnkeeiaafaaGreatDoor.P3 Go.Proofs.YtjgcjnkeeiaafaaGreatDoor.P3.C Go.Proofs.YtjgcjnkeeiaafaaGreatDoor.P3.L Go.Proofs.YtjgcjnkeeiaafaaGreatDoor.Lx
theorem info_ev : (Tryz.prog.info? 40).map (fun i => (i.zero, i.size, i.bytes)) = some (some (.agg #[.string ⟨#[]⟩, .string ⟨#[]⟩, .string ⟨#[]⟩, .bool false, .bool false, .int .i64 0]), 6, 64) := by kernel_rfl
theorem gro_ev {B : Nat} {W : World} {z1 : Value} {a b c : List UInt8} {p q : Bool} {d : Int} (h : W.ownsRow B 40 6 z1 1 [.string (bytes a), .string (bytes b), .string (bytes c), .bool p, .bool q, .int .i64 d]) : GrO B [.e ⟨a, b, c, p, q, d⟩] nilV z1 nilV nilV W :=
  ⟨[], rfl, World.ownsRow_nil _ _ _ _, h, World.ownsRow_nil _ _ _ _, World.ownsRow_nil _ _ _ _, fun _ h => nomatch h⟩
theorem ev_key {L : List B3} {oi : Nat} (h1 : clsAt L 1 = [110]) (ho : dOpt L [105, 110] 2 = (oi, false)) (h2 : clsAt L oi = kRole) (h3 : clsAt L (oi + 1) = [110]) : dEv L = dE2 L (oi + 2) := by
  unfold dEv
  rw [if_pos h1, ho]
  simp only [Bool.false_eq_true, if_false]
  rw [if_pos h2, if_pos h3]
set_option maxRecDepth 100000 in
set_option maxHeartbeats 16000000 in
theorem revents_any (w : World) (gb : Nat) (A : Option Addr) (c : Nat) (T : List Tok) (KA : Option Addr) (kc : Nat) (hg : w.heap[gb]? = some (.cells #[nilV, nilV, nilV, nilV] 28 (0, 0))) (hR : Row w A (rowC T)) (hK : KR w KA (T.map bare))
    (hfK : Far gb KA) (hl : T.length ≤ 1000000) (h1 : 1 ≤ T.length) :
    Calls Tryz.prog 41 #[.pointer (some ⟨gb, 0, none⟩), .slice A T.length c, .slice KA (T.length + 1) kc] w (SgP gb (dEv (T.map bare)) (.e (evV (T.map bare))) w) := by
  obtain ⟨i0, hi0, hi1, hi2, hi3⟩ := info_parts info_ev
  have HI0 := Lib.hid hi0
  have HI1 := Lib.hid hi1
  have HI2 := Lib.hid hi2
  have HI3 := Lib.hid hi3
  clear hi0 hi1 hi2 hi3
  have hlen : (T.map bare).length = T.length := List.length_map ..
  have HK := Lib.hid hK
  have HR := Lib.hid hR
  have HFK := Lib.hid hfK
  have HG := Lib.hid hg
  have HL := Lib.hid hlen
  obtain ⟨kb, ko, rfl, hkb, hkc⟩ := hK.at_
  have HKC := Lib.hid hkc
  clear hK hfK hg hkc
  by_cases hn1 : clsAt (T.map bare) 1 = [110]
  case neg =>
    obtain ⟨s, hs, he⟩ := HKC.out 1 (by rw [hlen]; exact h1)
    have h1' : (1 : Int) < ((T.length + 1 : Nat) : Int) := by omega
    have hq : (s.toList == [110]) = false := by rw [beq_eq_false_iff_ne, he]; exact hn1
    have HF := Lib.hid (show SgP gb (dEv (T.map bare)) (.e (evV (T.map bare))) w (.returned (.int .i64 (1 : Nat))) w by rw [show dEv (T.map bare) = (1, true) by unfold dEv; rw [if_neg hn1]]; exact sg_bad (World.grownBy.refl _ _))
    clear he hn1 hR
    go_enter Tryz.func41, Tryz.ntmps41
    go_wp2_with fail
    go_ret
    exact HF.out
  have hlt1 : 1 < T.length := by rw [← hlen]; exact at_lt (by rw [hn1]; decide)
  obtain ⟨s1, hs1, he1⟩ := HKC.out 1 (by rw [hlen]; exact h1)
  have h1' : (1 : Int) < ((T.length + 1 : Nat) : Int) := by omega
  have hq1 : (s1.toList == [110]) = true := by rw [he1, hn1]; rfl
  obtain ⟨tb, to_, rfl, htb, htc⟩ := tok_at hR hlt1
  obtain ⟨_, t1, _, _⟩ := htc 1 hlt1
  have HTC := Lib.hid htc
  have HTX := Lib.hid (txt_at hlt1)
  have hT1 : (1 : Int) < (T.length : Int) := by omega
  simp only [Nat.one_mul] at t1
  clear he1 htc hR
  generalize T[1]!.text = n1 at *
  obtain ⟨xb, hxb⟩ : ∃ xb, xb = w.heap.size := ⟨_, rfl⟩
  obtain ⟨wx, hwx⟩ : ∃ wx, wx = w.alloc (.cells #[.string ⟨n1.toArray⟩, .string ⟨#[]⟩, .string ⟨#[]⟩, .bool true, .bool false, .int .i64 (-1)] 40) := ⟨_, rfl⟩
  have HX0 := Lib.hid (show wx.heap[xb]? = some (.cells #[.string ⟨n1.toArray⟩, .string ⟨#[]⟩, .string ⟨#[]⟩, .bool true, .bool false, .int .i64 (-1)] 40 (0, 0)) by rw [hwx, hxb]; exact B.heap_new _ _)
  have HB0 := Lib.hid (show Below w.heap.size w wx by rw [hwx]; exact (Below.refl _ _).alloc (Nat.le_refl _) _)
  have hkx : kb < xb := by rw [hxb]; exact hkb
  have htx : tb < xb := by rw [hxb]; exact htb
  have hxw : w.heap.size ≤ xb := by rw [hxb]; exact Nat.le_refl _
  have CO0 := optional_any wx (some ⟨tb, to_, none⟩) c T (some ⟨kb, ko, none⟩) kc 2 ⟨#[105, 110]⟩ (Row.below HR.out (Nat.le_refl _) HB0.out) (HK.out.below HB0.out) (by omega) (by rw [Lib.toList_data]; decide) hl
  rw [show (⟨#[105, 110]⟩ : ByteArray).toList = [105, 110] from by rw [Lib.toList_data]] at CO0
  unfold OpP at CO0
  obtain ⟨op, hop⟩ : ∃ p, dOpt (T.map bare) [105, 110] 2 = p := ⟨_, rfl⟩
  have HLE := Lib.hid (dopt_le (l := T.map bare) (x := [105, 110]) (i := 2) (by rw [hlen]; omega))
  rw [hop] at CO0
  rw [hop] at HLE
  obtain ⟨oi, ob⟩ := op
  simp only at CO0
  have CO := Lib.hid CO0
  have HOP := Lib.hid hop
  have HN1 := Lib.hid hn1
  clear CO0 hop hn1
  cases ob with
  | true =>
    have HDD : Hid (dEv (T.map bare) = (oi, true)) := Lib.hid (by unfold dEv; rw [if_pos HN1.out, HOP.out]; rfl)
    go_enter Tryz.func41, Tryz.ntmps41
    go_wp2_with fail
    rw [← hwx]
    clear hwx hxb
    refine CO.out.mono ?_
    rintro e w8 ⟨sx, rfl, _, hw⟩
    subst hw
    go_wp2_with fail
    go_ret
    rw [HDD.out]
    exact sg_bad (grown_of HB0.out)
  | false =>
    have hole := HLE.out (by first | rfl | trivial)
    rw [hlen] at hole
    have HOV : Hid (∃ ov, dOptV (T.map bare) [105, 110] 2 = ov) := Lib.hid ⟨_, rfl⟩
    go_enter Tryz.func41, Tryz.ntmps41
    go_wp2_with fail
    rw [← hwx]
    rw [← hxb]
    clear hwx hxb
    refine CO.out.mono ?_
    rintro e w8 ⟨sx, rfl, hsx, hw⟩
    subst hw
    have HSX := Lib.hid (hsx (by first | rfl | trivial))
    clear hsx CO HOV HLE t1
    obtain ⟨wy, hwy⟩ : ∃ wy, wy = (wx.setCell ⟨xb, 1, none⟩ (.string sx)).alloc (.cells #[.string ⟨#[114, 111, 108, 101]⟩, .string ⟨#[110]⟩] 9) := ⟨_, rfl⟩
    have HX1 := Lib.hid (show wy.heap[xb]? = some (.cells #[.string ⟨n1.toArray⟩, .string sx, .string ⟨#[]⟩, .bool true, .bool false, .int .i64 (-1)] 40 (0, 0)) by rw [hwy]; exact B.heap_old (by rw [World.size_setCell]; exact B.blk_lt HX0.out) (B.blk_set HX0.out))
    have HB1 := Lib.hid (show Below w.heap.size w wy by rw [hwy]; exact (HB0.out.setCell (p := ⟨xb, 1, none⟩) hxw _).alloc (by rw [World.size_setCell]; exact HB0.out.size) _)
    have HW1 := Lib.hid (show Row wy (some ⟨wx.heap.size, 0, none⟩) [.string ⟨#[114, 111, 108, 101]⟩, .string ⟨#[110]⟩] by
      rw [hwy]; exact fun _ => ⟨wx.heap.size, 0, rfl, by simp, fun j u hj => by
        rw [Nat.zero_add]
        have h := B.heap_new (wx.setCell ⟨xb, 1, none⟩ (.string sx)) (.cells #[.string ⟨#[114, 111, 108, 101]⟩, .string ⟨#[110]⟩] 9)
        rw [World.size_setCell] at h
        exact B.cell_blk h (by rw [← hj]; simp)⟩)
    have CF := fits_any wy (some ⟨kb, ko, none⟩) kc (T.map bare) oi (some ⟨wx.heap.size, 0, none⟩) 2 ⟨#[114, 111, 108, 101]⟩ ⟨#[110]⟩ (HK.out.below HB1.out) HW1.out (by rw [hlen]; exact hole) (by rw [Lib.toList_data]; decide) (by rw [hlen]; exact hl)
    rw [hlen, show (⟨#[114, 111, 108, 101]⟩ : ByteArray).toList = kRole from by rw [Lib.toList_data], show (⟨#[110]⟩ : ByteArray).toList = [110] from by rw [Lib.toList_data]] at CF
    have HCF := Lib.hid CF
    have x0 := B.cell_blk (i := 1) HX0.out rfl
    have xf := B.frozen_blk (i := 1) HX0.out
    have xl := B.blk_lt HX0.out
    clear CF HW1
    go_wp2_with fail
    rw [← hwy]
    clear hwy x0 xf xl
    refine HCF.out.mono ?_
    rintro e wz ⟨rfl, hbz⟩
    have HB := Lib.hid (HB1.out.trans (hbz.mono HB1.out.size))
    have HX := Lib.hid ((hbz.block xb (B.blk_lt HX1.out)).trans HX1.out)
    clear hbz HCF HB0 HB1 HX0 HX1
    have hoi0 : (0 : Int) ≤ (oi : Int) := Int.natCast_nonneg _
    have hoi1 : (oi : Int) ≤ 1000000 := by omega
    by_cases hr : clsAt (T.map bare) oi = kRole
    case neg =>
      have HN : Hid (fitN (T.map bare) kRole [110] oi = 0) := Lib.hid (by unfold fitN; rw [if_neg hr])
      have HDD : Hid (dEv (T.map bare) = (oi, true)) := Lib.hid (by unfold dEv; rw [if_pos HN1.out, HOP.out]; simp only [Bool.false_eq_true, if_false]; rw [if_neg hr])
      rw [HN.out]
      clear hr
      go_wp2_with fail
      go_ret
      rw [HDD.out]
      exact sg_bad (grown_of HB.out)
    by_cases hr2 : clsAt (T.map bare) (oi + 1) = [110]
    case neg =>
      have HN : Hid (fitN (T.map bare) kRole [110] oi = 1) := Lib.hid (by unfold fitN; rw [if_pos hr, if_neg hr2])
      have HDD : Hid (dEv (T.map bare) = (oi + 1, true)) := Lib.hid (by unfold dEv; rw [if_pos HN1.out, HOP.out]; simp only [Bool.false_eq_true, if_false]; rw [if_pos hr, if_neg hr2])
      rw [HN.out]
      clear hr hr2
      go_wp2_with fail
      go_ret
      rw [HDD.out]
      exact sg_bad (grown_of HB.out)
    have HN : Hid (fitN (T.map bare) kRole [110] oi = 2) := Lib.hid (by unfold fitN; rw [if_pos hr, if_pos hr2])
    have hlt2 : oi + 1 < T.length := by rw [← hlen]; exact at_lt (by rw [hr2]; decide)
    have HKEY := Lib.hid (ev_key HN1.out HOP.out hr hr2)
    have HEV := Lib.hid (ev_val (l := T.map bare) HN1.out HOP.out hr hr2)
    obtain ⟨_, t2, _, _⟩ := HTC.out (oi + 1) hlt2
    have t2 := (HB.out.cell (p := ⟨tb, _, none⟩) htb).trans t2
    have HTX2 := Lib.hid (txt_at hlt2)
    have hT2 : (oi : Int) + 1 < (T.length : Int) := by omega
    have htz : tb < wz.heap.size := by have := HB.out.size; omega
    have hkz : kb < wz.heap.size := by have := HB.out.size; omega
    have HC := Lib.hid (fun j (hj : j ≤ T.length) => show ∃ s : ByteArray, wz.cell? ⟨kb, ko + j, none⟩ = some (.string s) ∧ s.toList = clsAt (T.map bare) j by
      obtain ⟨s, h1, h2⟩ := HKC.out j (by rw [hlen]; exact hj)
      exact ⟨s, (HB.out.cell (p := ⟨kb, ko + j, none⟩) hkb).trans h1, h2⟩)
    have HVC := Lib.hid (fun j (hj : j < T.length) => (HB.out.cell (p := ⟨tb, to_ + j * 4 + 2, none⟩) htb).trans (HTC.out j hj).2.2.1)
    have HAL := Lib.hid (fun j x (hx : x ≠ [46]) (h : clsAt (T.map bare) j = x) => show j < T.length by rw [← hlen]; exact at_lt (by rw [h]; exact hx))
    rw [HN.out]
    clear hr hr2 hlt1 hs1 hq1 h1' hT1
    generalize T[oi + 1]!.text = n2 at *
    obtain ⟨s2, hs2, es2⟩ := HC.out (oi + 2) (by omega)
    have b2 : (oi : Int) + 2 < ((T.length + 1 : Nat) : Int) := by omega
    cases q7 : (s2.toList == kExc) with
    | true =>
      have c7 : clsAt (T.map bare) (oi + 2) = kExc := es2.symm.trans (eq_of_beq q7)
      have l7 := HAL.out _ _ (by decide) c7
      clear es2
      obtain ⟨s3, hs3, es3⟩ := HC.out (oi + 3) (by omega)
      have b3 : (oi : Int) + 3 < ((T.length + 1 : Nat) : Int) := by omega
      cases q8 : (s3.toList == kDone) with
      | true =>
        have c8 : clsAt (T.map bare) (oi + 3) = kDone := es3.symm.trans (eq_of_beq q8)
        have l8 := HAL.out _ _ (by decide) c8
        clear es3
        obtain ⟨sq, hsq, esq⟩ := HC.out (oi + 4) (by omega)
        have b4 : (oi : Int) + 4 < ((T.length + 1 : Nat) : Int) := by omega
        cases q9 : (sq.toList == kPend) with
        | true =>
          have c9 : clsAt (T.map bare) (oi + 4) = kPend := esq.symm.trans (eq_of_beq q9)
          have l9 := HAL.out _ _ (by decide) c9
          clear esq
          have m1 : dMay (T.map bare) kExc (oi + 2) = oi + 3 := by unfold dMay; rw [if_pos c7]
          have m2 : dMay (T.map bare) kDone (oi + 3) = oi + 4 := by unfold dMay; rw [if_pos c8]
          have HDD : Hid (dEv (T.map bare) = dEnd (T.map bare) (oi + 4 + 1)) := Lib.hid (by rw [HKEY.out]; unfold dE2; rw [m1, m2]; unfold dDue; rw [if_pos c9])
          have x0 := B.cell_blk (i := 0) HX.out rfl
          have x1 := B.cell_blk (i := 1) HX.out rfl
          have x2 := B.cell_blk (i := 2) HX.out rfl
          have x3 := B.cell_blk (i := 3) HX.out rfl
          have x4 := B.cell_blk (i := 4) HX.out rfl
          have x5 := B.cell_blk (i := 5) HX.out rfl
          have xf2 := B.frozen_blk (i := 2) HX.out
          have xf3 := B.frozen_blk (i := 3) HX.out
          have xf4 := B.frozen_blk (i := 4) HX.out
          have xf5 := B.frozen_blk (i := 5) HX.out
          have xl := B.blk_lt HX.out
          have hxz : xb ≠ kb := by omega
          have hxt : xb ≠ tb := by omega
          have HDV : Hid (dDueV (T.map bare) (oi + 4) = 1048576) := Lib.hid (by unfold dDueV; rw [if_pos c9])
          have HVV : Hid (evV (T.map bare) = ⟨n1, dOptV (T.map bare) [105, 110] 2, n2, false, true, 1048576⟩) := Lib.hid (by
            rw [HEV.out (by rw [m1, m2]; exact (fun h => by rw [c9] at h; exact absurd h (by decide))), m1, m2, HTX.out, HTX2.out, HDV.out]
            rw [show (clsAt (T.map bare) (oi + 2) == kExc) = true from by rw [c7]; rfl, show (clsAt (T.map bare) (oi + 3) == kDone) = true from by rw [c8]; rfl]
            rfl)
          clear m1 m2 c7 c8 c9
          obtain ⟨W, hW⟩ : ∃ W, W = ((((wz.setCell ⟨xb, 2, none⟩ (.string ⟨n2.toArray⟩)).setCell ⟨xb, 3, none⟩ (.bool false)).setCell ⟨xb, 4, none⟩ (.bool true)).setCell ⟨xb, 5, none⟩ (.int .i64 1048576)) := ⟨_, rfl⟩
          have HWX := Lib.hid (show W.heap[xb]? = some (.cells #[.string ⟨n1.toArray⟩, .string sx, .string ⟨n2.toArray⟩, .bool false, .bool true, .int .i64 1048576] 40 (0, 0)) by rw [hW]; exact (B.blk_set (i := 5) (v := (.int .i64 1048576)) (B.blk_set (i := 4) (v := (.bool true)) (B.blk_set (i := 3) (v := (.bool false)) (B.blk_set (i := 2) (v := (.string ⟨n2.toArray⟩)) HX.out)))))
          have HWB := Lib.hid (show Below w.heap.size w W by rw [hW]; exact ((((HB.out.setCell (p := ⟨xb, 2, none⟩) hxw (.string ⟨n2.toArray⟩)).setCell (p := ⟨xb, 3, none⟩) hxw (.bool false)).setCell (p := ⟨xb, 4, none⟩) hxw (.bool true)).setCell (p := ⟨xb, 5, none⟩) hxw (.int .i64 1048576)))
          have y0 := B.cell_blk (i := 0) HWX.out rfl
          have y1 := B.cell_blk (i := 1) HWX.out rfl
          have y2 := B.cell_blk (i := 2) HWX.out rfl
          have y3 := B.cell_blk (i := 3) HWX.out rfl
          have y4 := B.cell_blk (i := 4) HWX.out rfl
          have y5 := B.cell_blk (i := 5) HWX.out rfl
          have yl := B.blk_lt HWX.out
          have HGW := Lib.hid ((HWB.out.block gb (B.blk_lt HG.out)).trans HG.out)
          have g1 := B.cell_blk (i := 1) HGW.out rfl
          have gl0 := B.blk_lt HG.out
          have gl := B.blk_lt HGW.out
          have HX1 := Lib.hid (B.heap_new W (.cells #[.string ⟨n1.toArray⟩, .string sx, .string ⟨n2.toArray⟩, .bool false, .bool true, .int .i64 1048576] 40))
          have hws := HWB.out.size
          go_wp2_with fail
          rw [← hW]
          clear hW x0 x1 x2 x3 x4 x5 xf2 xf3 xf4 xf5 xl
          go_region_law (first
            | (refine step_append rfl (.tmp 101) (.tmp 103) 24 rfl w.heap.size 40 i0 _ 6 64 Tryz.underlying24 HI0.out HI1.out HI2.out HI3.out rfl (by omega) (.slice none 0 0) 0 [] rfl (World.ownsRow_nil _ _ _ _) ⟨W.heap.size, 0, none⟩ 1 1 [.string ⟨n1.toArray⟩, .string sx, .string ⟨n2.toArray⟩, .bool false, .bool true, .int .i64 1048576] rfl rfl (fun j u hj => by rw [Addr.add_lit, Nat.zero_add]; exact B.cell_blk HX1.out (by simpa using hj)) (by intro u hu; simp at hu; rcases hu with rfl | rfl | rfl | rfl | rfl | rfl <;> rfl) (by unfold maxLen; omega) (by omega) (by simp; omega) ?_; intro v' w9 hown' hgrow; obtain ⟨pa, pc, rfl⟩ := B.own_slice hown'; obtain ⟨p1, p2, p3⟩ := after_put (i := 1) (v' := .slice pa 1 pc) (B.below_draws (HWB.out.alloc hws _) 1) HG.out hgrow; have HP1 := Lib.hid p1; have HP2 := Lib.hid p2; have HOW := Lib.hid (B.own_set (i := 1) hown' (own_off hown' gl0) (.slice pa 1 pc)); have f9 := B.frozen_blk (i := 1) p3; have q9 := B.cell_blk (i := 1) p3 rfl; have l9 := B.blk_lt p3; clear hown' hgrow p1 p2 p3))
          all_goals
            have CE := ends_any _ (some ⟨kb, ko, none⟩) kc (T.map bare) (oi + 5) (row_grown HK.out HFK.out HP1.out) (by rw [HL.out]; omega)
            rw [HL.out, show ((oi + 5 : Nat) : Int) = (oi : Int) + 5 from by omega] at CE
            have HCE := Lib.hid CE
            clear CE
            go_wp2_with fail
            refine HCE.out.mono ?_
            rintro e w8 ⟨rfl, hw⟩
            subst hw
            go_wp2_with fail
            go_ret
            rw [HDD.out, HVV.out, ← HSX.out]
            exact ⟨HP1.out, rfl, fun _ => ⟨_, _, _, _, HP2.out, gro_ev HOW.out⟩⟩
        | false =>
          have c9 : ¬ clsAt (T.map bare) (oi + 4) = kPend := fun h => by rw [esq, h, beq_self_eq_true] at q9; cases q9
          cases q10 : (sq.toList == kDue) with
          | true =>
            have c10 : clsAt (T.map bare) (oi + 4) = kDue := esq.symm.trans (eq_of_beq q10)
            have l10 := HAL.out _ _ (by decide) c10
            obtain ⟨sd, hsd, esd⟩ := HC.out (oi + 5) (by omega)
            have b5 : (oi : Int) + 5 < ((T.length + 1 : Nat) : Int) := by omega
            cases q11 : (sd.toList == [100]) with
            | true =>
              have c11 : clsAt (T.map bare) (oi + 5) = [100] := esd.symm.trans (eq_of_beq q11)
              have l11 := HAL.out _ _ (by decide) c11
              have ht3 : oi + 4 + 1 < T.length := by have := HAL.out (oi + 4 + 1) [100] (by decide) c11; exact this
              obtain ⟨v3, hv3⟩ : ∃ v3, T[oi + 4 + 1]!.val = v3 := ⟨_, rfl⟩
              have v3c := HVC.out (oi + 4 + 1) ht3
              rw [hv3] at v3c
              have hT3 : (oi : Int) + 5 < (T.length : Int) := by omega
              clear esq esd
              have m1 : dMay (T.map bare) kExc (oi + 2) = oi + 3 := by unfold dMay; rw [if_pos c7]
              have m2 : dMay (T.map bare) kDone (oi + 3) = oi + 4 := by unfold dMay; rw [if_pos c8]
              have HDD : Hid (dEv (T.map bare) = dEnd (T.map bare) (oi + 4 + 2)) := Lib.hid (by rw [HKEY.out]; unfold dE2; rw [m1, m2]; unfold dDue; rw [if_neg c9, if_pos c10, if_pos c11])
              have x0 := B.cell_blk (i := 0) HX.out rfl
              have x1 := B.cell_blk (i := 1) HX.out rfl
              have x2 := B.cell_blk (i := 2) HX.out rfl
              have x3 := B.cell_blk (i := 3) HX.out rfl
              have x4 := B.cell_blk (i := 4) HX.out rfl
              have x5 := B.cell_blk (i := 5) HX.out rfl
              have xf2 := B.frozen_blk (i := 2) HX.out
              have xf3 := B.frozen_blk (i := 3) HX.out
              have xf4 := B.frozen_blk (i := 4) HX.out
              have xf5 := B.frozen_blk (i := 5) HX.out
              have xl := B.blk_lt HX.out
              have hxz : xb ≠ kb := by omega
              have hxt : xb ≠ tb := by omega
              have HDV : Hid (dDueV (T.map bare) (oi + 4) = (v3 : Int)) := Lib.hid (by unfold dDueV; rw [if_neg c9, if_pos c10]; rw [val_at ht3, hv3])
              have HVV : Hid (evV (T.map bare) = ⟨n1, dOptV (T.map bare) [105, 110] 2, n2, false, true, (v3 : Int)⟩) := Lib.hid (by
                rw [HEV.out (by rw [m1, m2]; exact (fun _ => c11)), m1, m2, HTX.out, HTX2.out, HDV.out]
                rw [show (clsAt (T.map bare) (oi + 2) == kExc) = true from by rw [c7]; rfl, show (clsAt (T.map bare) (oi + 3) == kDone) = true from by rw [c8]; rfl]
                rfl)
              clear m1 m2 c7 c8 c9 c10 c11 hv3
              obtain ⟨W, hW⟩ : ∃ W, W = ((((wz.setCell ⟨xb, 2, none⟩ (.string ⟨n2.toArray⟩)).setCell ⟨xb, 3, none⟩ (.bool false)).setCell ⟨xb, 4, none⟩ (.bool true)).setCell ⟨xb, 5, none⟩ (.int .i64 (v3 : Int))) := ⟨_, rfl⟩
              have HWX := Lib.hid (show W.heap[xb]? = some (.cells #[.string ⟨n1.toArray⟩, .string sx, .string ⟨n2.toArray⟩, .bool false, .bool true, .int .i64 (v3 : Int)] 40 (0, 0)) by rw [hW]; exact (B.blk_set (i := 5) (v := (.int .i64 (v3 : Int))) (B.blk_set (i := 4) (v := (.bool true)) (B.blk_set (i := 3) (v := (.bool false)) (B.blk_set (i := 2) (v := (.string ⟨n2.toArray⟩)) HX.out)))))
              have HWB := Lib.hid (show Below w.heap.size w W by rw [hW]; exact ((((HB.out.setCell (p := ⟨xb, 2, none⟩) hxw (.string ⟨n2.toArray⟩)).setCell (p := ⟨xb, 3, none⟩) hxw (.bool false)).setCell (p := ⟨xb, 4, none⟩) hxw (.bool true)).setCell (p := ⟨xb, 5, none⟩) hxw (.int .i64 (v3 : Int))))
              have y0 := B.cell_blk (i := 0) HWX.out rfl
              have y1 := B.cell_blk (i := 1) HWX.out rfl
              have y2 := B.cell_blk (i := 2) HWX.out rfl
              have y3 := B.cell_blk (i := 3) HWX.out rfl
              have y4 := B.cell_blk (i := 4) HWX.out rfl
              have y5 := B.cell_blk (i := 5) HWX.out rfl
              have yl := B.blk_lt HWX.out
              have HGW := Lib.hid ((HWB.out.block gb (B.blk_lt HG.out)).trans HG.out)
              have g1 := B.cell_blk (i := 1) HGW.out rfl
              have gl0 := B.blk_lt HG.out
              have gl := B.blk_lt HGW.out
              have HX1 := Lib.hid (B.heap_new W (.cells #[.string ⟨n1.toArray⟩, .string sx, .string ⟨n2.toArray⟩, .bool false, .bool true, .int .i64 (v3 : Int)] 40))
              have hws := HWB.out.size
              go_wp2_with fail
              rw [← hW]
              clear hW x0 x1 x2 x3 x4 x5 xf2 xf3 xf4 xf5 xl
              go_region_law (first
                | (refine step_append rfl (.tmp 101) (.tmp 103) 24 rfl w.heap.size 40 i0 _ 6 64 Tryz.underlying24 HI0.out HI1.out HI2.out HI3.out rfl (by omega) (.slice none 0 0) 0 [] rfl (World.ownsRow_nil _ _ _ _) ⟨W.heap.size, 0, none⟩ 1 1 [.string ⟨n1.toArray⟩, .string sx, .string ⟨n2.toArray⟩, .bool false, .bool true, .int .i64 (v3 : Int)] rfl rfl (fun j u hj => by rw [Addr.add_lit, Nat.zero_add]; exact B.cell_blk HX1.out (by simpa using hj)) (by intro u hu; simp at hu; rcases hu with rfl | rfl | rfl | rfl | rfl | rfl <;> rfl) (by unfold maxLen; omega) (by omega) (by simp; omega) ?_; intro v' w9 hown' hgrow; obtain ⟨pa, pc, rfl⟩ := B.own_slice hown'; obtain ⟨p1, p2, p3⟩ := after_put (i := 1) (v' := .slice pa 1 pc) (B.below_draws (HWB.out.alloc hws _) 1) HG.out hgrow; have HP1 := Lib.hid p1; have HP2 := Lib.hid p2; have HOW := Lib.hid (B.own_set (i := 1) hown' (own_off hown' gl0) (.slice pa 1 pc)); have f9 := B.frozen_blk (i := 1) p3; have q9 := B.cell_blk (i := 1) p3 rfl; have l9 := B.blk_lt p3; clear hown' hgrow p1 p2 p3))
              all_goals
                have CE := ends_any _ (some ⟨kb, ko, none⟩) kc (T.map bare) (oi + 6) (row_grown HK.out HFK.out HP1.out) (by rw [HL.out]; omega)
                rw [HL.out, show ((oi + 6 : Nat) : Int) = (oi : Int) + 6 from by omega] at CE
                have HCE := Lib.hid CE
                clear CE
                go_wp2_with fail
                refine HCE.out.mono ?_
                rintro e w8 ⟨rfl, hw⟩
                subst hw
                go_wp2_with fail
                go_ret
                rw [HDD.out, HVV.out, ← HSX.out]
                exact ⟨HP1.out, rfl, fun _ => ⟨_, _, _, _, HP2.out, gro_ev HOW.out⟩⟩
            | false =>
              have c11 : ¬ clsAt (T.map bare) (oi + 5) = [100] := fun h => by rw [esd, h, beq_self_eq_true] at q11; cases q11
              clear esq esd
              have m1 : dMay (T.map bare) kExc (oi + 2) = oi + 3 := by unfold dMay; rw [if_pos c7]
              have m2 : dMay (T.map bare) kDone (oi + 3) = oi + 4 := by unfold dMay; rw [if_pos c8]
              have HDD : Hid (dEv (T.map bare) = (oi + 4 + 1, true)) := Lib.hid (by rw [HKEY.out]; unfold dE2; rw [m1, m2]; unfold dDue; rw [if_neg c9, if_pos c10, if_neg c11])
              have x0 := B.cell_blk (i := 0) HX.out rfl
              have x1 := B.cell_blk (i := 1) HX.out rfl
              have x2 := B.cell_blk (i := 2) HX.out rfl
              have x3 := B.cell_blk (i := 3) HX.out rfl
              have x4 := B.cell_blk (i := 4) HX.out rfl
              have x5 := B.cell_blk (i := 5) HX.out rfl
              have xf2 := B.frozen_blk (i := 2) HX.out
              have xf3 := B.frozen_blk (i := 3) HX.out
              have xf4 := B.frozen_blk (i := 4) HX.out
              have xf5 := B.frozen_blk (i := 5) HX.out
              have xl := B.blk_lt HX.out
              have hxz : xb ≠ kb := by omega
              have hxt : xb ≠ tb := by omega
              have HGW := Lib.hid HB.out
              clear m1 m2 c7 c8 c9 c10 c11
              go_wp2_with fail
              go_ret
              rw [HDD.out]
              exact sg_bad (grown_of (((HB.out.setCell (p := ⟨xb, 2, none⟩) hxw (.string ⟨n2.toArray⟩)).setCell (p := ⟨xb, 3, none⟩) hxw (.bool false)).setCell (p := ⟨xb, 4, none⟩) hxw (.bool true)))
          | false =>
            have c10 : ¬ clsAt (T.map bare) (oi + 4) = kDue := fun h => by rw [esq, h, beq_self_eq_true] at q10; cases q10
            clear esq
            have m1 : dMay (T.map bare) kExc (oi + 2) = oi + 3 := by unfold dMay; rw [if_pos c7]
            have m2 : dMay (T.map bare) kDone (oi + 3) = oi + 4 := by unfold dMay; rw [if_pos c8]
            have HDD : Hid (dEv (T.map bare) = dEnd (T.map bare) (oi + 4)) := Lib.hid (by rw [HKEY.out]; unfold dE2; rw [m1, m2]; unfold dDue; rw [if_neg c9, if_neg c10])
            have x0 := B.cell_blk (i := 0) HX.out rfl
            have x1 := B.cell_blk (i := 1) HX.out rfl
            have x2 := B.cell_blk (i := 2) HX.out rfl
            have x3 := B.cell_blk (i := 3) HX.out rfl
            have x4 := B.cell_blk (i := 4) HX.out rfl
            have x5 := B.cell_blk (i := 5) HX.out rfl
            have xf2 := B.frozen_blk (i := 2) HX.out
            have xf3 := B.frozen_blk (i := 3) HX.out
            have xf4 := B.frozen_blk (i := 4) HX.out
            have xf5 := B.frozen_blk (i := 5) HX.out
            have xl := B.blk_lt HX.out
            have hxz : xb ≠ kb := by omega
            have hxt : xb ≠ tb := by omega
            have HDV : Hid (dDueV (T.map bare) (oi + 4) = (-1)) := Lib.hid (by unfold dDueV; rw [if_neg c9, if_neg c10])
            have HVV : Hid (evV (T.map bare) = ⟨n1, dOptV (T.map bare) [105, 110] 2, n2, false, true, (-1)⟩) := Lib.hid (by
              rw [HEV.out (by rw [m1, m2]; exact (fun h => absurd h c10)), m1, m2, HTX.out, HTX2.out, HDV.out]
              rw [show (clsAt (T.map bare) (oi + 2) == kExc) = true from by rw [c7]; rfl, show (clsAt (T.map bare) (oi + 3) == kDone) = true from by rw [c8]; rfl]
              rfl)
            clear m1 m2 c7 c8 c9 c10
            obtain ⟨W, hW⟩ : ∃ W, W = (((wz.setCell ⟨xb, 2, none⟩ (.string ⟨n2.toArray⟩)).setCell ⟨xb, 3, none⟩ (.bool false)).setCell ⟨xb, 4, none⟩ (.bool true)) := ⟨_, rfl⟩
            have HWX := Lib.hid (show W.heap[xb]? = some (.cells #[.string ⟨n1.toArray⟩, .string sx, .string ⟨n2.toArray⟩, .bool false, .bool true, .int .i64 (-1)] 40 (0, 0)) by rw [hW]; exact (B.blk_set (i := 4) (v := (.bool true)) (B.blk_set (i := 3) (v := (.bool false)) (B.blk_set (i := 2) (v := (.string ⟨n2.toArray⟩)) HX.out))))
            have HWB := Lib.hid (show Below w.heap.size w W by rw [hW]; exact (((HB.out.setCell (p := ⟨xb, 2, none⟩) hxw (.string ⟨n2.toArray⟩)).setCell (p := ⟨xb, 3, none⟩) hxw (.bool false)).setCell (p := ⟨xb, 4, none⟩) hxw (.bool true)))
            have y0 := B.cell_blk (i := 0) HWX.out rfl
            have y1 := B.cell_blk (i := 1) HWX.out rfl
            have y2 := B.cell_blk (i := 2) HWX.out rfl
            have y3 := B.cell_blk (i := 3) HWX.out rfl
            have y4 := B.cell_blk (i := 4) HWX.out rfl
            have y5 := B.cell_blk (i := 5) HWX.out rfl
            have yl := B.blk_lt HWX.out
            have HGW := Lib.hid ((HWB.out.block gb (B.blk_lt HG.out)).trans HG.out)
            have g1 := B.cell_blk (i := 1) HGW.out rfl
            have gl0 := B.blk_lt HG.out
            have gl := B.blk_lt HGW.out
            have HX1 := Lib.hid (B.heap_new W (.cells #[.string ⟨n1.toArray⟩, .string sx, .string ⟨n2.toArray⟩, .bool false, .bool true, .int .i64 (-1)] 40))
            have hws := HWB.out.size
            go_wp2_with fail
            rw [← hW]
            clear hW x0 x1 x2 x3 x4 x5 xf2 xf3 xf4 xf5 xl
            go_region_law (first
              | (refine step_append rfl (.tmp 101) (.tmp 103) 24 rfl w.heap.size 40 i0 _ 6 64 Tryz.underlying24 HI0.out HI1.out HI2.out HI3.out rfl (by omega) (.slice none 0 0) 0 [] rfl (World.ownsRow_nil _ _ _ _) ⟨W.heap.size, 0, none⟩ 1 1 [.string ⟨n1.toArray⟩, .string sx, .string ⟨n2.toArray⟩, .bool false, .bool true, .int .i64 (-1)] rfl rfl (fun j u hj => by rw [Addr.add_lit, Nat.zero_add]; exact B.cell_blk HX1.out (by simpa using hj)) (by intro u hu; simp at hu; rcases hu with rfl | rfl | rfl | rfl | rfl | rfl <;> rfl) (by unfold maxLen; omega) (by omega) (by simp; omega) ?_; intro v' w9 hown' hgrow; obtain ⟨pa, pc, rfl⟩ := B.own_slice hown'; obtain ⟨p1, p2, p3⟩ := after_put (i := 1) (v' := .slice pa 1 pc) (B.below_draws (HWB.out.alloc hws _) 1) HG.out hgrow; have HP1 := Lib.hid p1; have HP2 := Lib.hid p2; have HOW := Lib.hid (B.own_set (i := 1) hown' (own_off hown' gl0) (.slice pa 1 pc)); have f9 := B.frozen_blk (i := 1) p3; have q9 := B.cell_blk (i := 1) p3 rfl; have l9 := B.blk_lt p3; clear hown' hgrow p1 p2 p3))
            all_goals
              have CE := ends_any _ (some ⟨kb, ko, none⟩) kc (T.map bare) (oi + 4) (row_grown HK.out HFK.out HP1.out) (by rw [HL.out]; omega)
              rw [HL.out, show ((oi + 4 : Nat) : Int) = (oi : Int) + 4 from by omega] at CE
              have HCE := Lib.hid CE
              clear CE
              go_wp2_with fail
              refine HCE.out.mono ?_
              rintro e w8 ⟨rfl, hw⟩
              subst hw
              go_wp2_with fail
              go_ret
              rw [HDD.out, HVV.out, ← HSX.out]
              exact ⟨HP1.out, rfl, fun _ => ⟨_, _, _, _, HP2.out, gro_ev HOW.out⟩⟩
      | false =>
        have c8 : ¬ clsAt (T.map bare) (oi + 3) = kDone := fun h => by rw [es3, h, beq_self_eq_true] at q8; cases q8
        cases q9 : (s3.toList == kPend) with
        | true =>
          have c9 : clsAt (T.map bare) (oi + 3) = kPend := es3.symm.trans (eq_of_beq q9)
          have l9 := HAL.out _ _ (by decide) c9
          clear es3
          have m1 : dMay (T.map bare) kExc (oi + 2) = oi + 3 := by unfold dMay; rw [if_pos c7]
          have m2 : dMay (T.map bare) kDone (oi + 3) = oi + 3 := by unfold dMay; rw [if_neg c8]
          have HDD : Hid (dEv (T.map bare) = dEnd (T.map bare) (oi + 3 + 1)) := Lib.hid (by rw [HKEY.out]; unfold dE2; rw [m1, m2]; unfold dDue; rw [if_pos c9])
          have x0 := B.cell_blk (i := 0) HX.out rfl
          have x1 := B.cell_blk (i := 1) HX.out rfl
          have x2 := B.cell_blk (i := 2) HX.out rfl
          have x3 := B.cell_blk (i := 3) HX.out rfl
          have x4 := B.cell_blk (i := 4) HX.out rfl
          have x5 := B.cell_blk (i := 5) HX.out rfl
          have xf2 := B.frozen_blk (i := 2) HX.out
          have xf3 := B.frozen_blk (i := 3) HX.out
          have xf4 := B.frozen_blk (i := 4) HX.out
          have xf5 := B.frozen_blk (i := 5) HX.out
          have xl := B.blk_lt HX.out
          have hxz : xb ≠ kb := by omega
          have hxt : xb ≠ tb := by omega
          have HDV : Hid (dDueV (T.map bare) (oi + 3) = 1048576) := Lib.hid (by unfold dDueV; rw [if_pos c9])
          have HVV : Hid (evV (T.map bare) = ⟨n1, dOptV (T.map bare) [105, 110] 2, n2, false, false, 1048576⟩) := Lib.hid (by
            rw [HEV.out (by rw [m1, m2]; exact (fun h => by rw [c9] at h; exact absurd h (by decide))), m1, m2, HTX.out, HTX2.out, HDV.out]
            rw [show (clsAt (T.map bare) (oi + 2) == kExc) = true from by rw [c7]; rfl, show (clsAt (T.map bare) (oi + 3) == kDone) = false from beq_eq_false_iff_ne.2 c8]
            rfl)
          clear m1 m2 c7 c8 c9
          obtain ⟨W, hW⟩ : ∃ W, W = (((wz.setCell ⟨xb, 2, none⟩ (.string ⟨n2.toArray⟩)).setCell ⟨xb, 3, none⟩ (.bool false)).setCell ⟨xb, 5, none⟩ (.int .i64 1048576)) := ⟨_, rfl⟩
          have HWX := Lib.hid (show W.heap[xb]? = some (.cells #[.string ⟨n1.toArray⟩, .string sx, .string ⟨n2.toArray⟩, .bool false, .bool false, .int .i64 1048576] 40 (0, 0)) by rw [hW]; exact (B.blk_set (i := 5) (v := (.int .i64 1048576)) (B.blk_set (i := 3) (v := (.bool false)) (B.blk_set (i := 2) (v := (.string ⟨n2.toArray⟩)) HX.out))))
          have HWB := Lib.hid (show Below w.heap.size w W by rw [hW]; exact (((HB.out.setCell (p := ⟨xb, 2, none⟩) hxw (.string ⟨n2.toArray⟩)).setCell (p := ⟨xb, 3, none⟩) hxw (.bool false)).setCell (p := ⟨xb, 5, none⟩) hxw (.int .i64 1048576)))
          have y0 := B.cell_blk (i := 0) HWX.out rfl
          have y1 := B.cell_blk (i := 1) HWX.out rfl
          have y2 := B.cell_blk (i := 2) HWX.out rfl
          have y3 := B.cell_blk (i := 3) HWX.out rfl
          have y4 := B.cell_blk (i := 4) HWX.out rfl
          have y5 := B.cell_blk (i := 5) HWX.out rfl
          have yl := B.blk_lt HWX.out
          have HGW := Lib.hid ((HWB.out.block gb (B.blk_lt HG.out)).trans HG.out)
          have g1 := B.cell_blk (i := 1) HGW.out rfl
          have gl0 := B.blk_lt HG.out
          have gl := B.blk_lt HGW.out
          have HX1 := Lib.hid (B.heap_new W (.cells #[.string ⟨n1.toArray⟩, .string sx, .string ⟨n2.toArray⟩, .bool false, .bool false, .int .i64 1048576] 40))
          have hws := HWB.out.size
          go_wp2_with fail
          rw [← hW]
          clear hW x0 x1 x2 x3 x4 x5 xf2 xf3 xf4 xf5 xl
          go_region_law (first
            | (refine step_append rfl (.tmp 101) (.tmp 103) 24 rfl w.heap.size 40 i0 _ 6 64 Tryz.underlying24 HI0.out HI1.out HI2.out HI3.out rfl (by omega) (.slice none 0 0) 0 [] rfl (World.ownsRow_nil _ _ _ _) ⟨W.heap.size, 0, none⟩ 1 1 [.string ⟨n1.toArray⟩, .string sx, .string ⟨n2.toArray⟩, .bool false, .bool false, .int .i64 1048576] rfl rfl (fun j u hj => by rw [Addr.add_lit, Nat.zero_add]; exact B.cell_blk HX1.out (by simpa using hj)) (by intro u hu; simp at hu; rcases hu with rfl | rfl | rfl | rfl | rfl | rfl <;> rfl) (by unfold maxLen; omega) (by omega) (by simp; omega) ?_; intro v' w9 hown' hgrow; obtain ⟨pa, pc, rfl⟩ := B.own_slice hown'; obtain ⟨p1, p2, p3⟩ := after_put (i := 1) (v' := .slice pa 1 pc) (B.below_draws (HWB.out.alloc hws _) 1) HG.out hgrow; have HP1 := Lib.hid p1; have HP2 := Lib.hid p2; have HOW := Lib.hid (B.own_set (i := 1) hown' (own_off hown' gl0) (.slice pa 1 pc)); have f9 := B.frozen_blk (i := 1) p3; have q9 := B.cell_blk (i := 1) p3 rfl; have l9 := B.blk_lt p3; clear hown' hgrow p1 p2 p3))
          all_goals
            have CE := ends_any _ (some ⟨kb, ko, none⟩) kc (T.map bare) (oi + 4) (row_grown HK.out HFK.out HP1.out) (by rw [HL.out]; omega)
            rw [HL.out, show ((oi + 4 : Nat) : Int) = (oi : Int) + 4 from by omega] at CE
            have HCE := Lib.hid CE
            clear CE
            go_wp2_with fail
            refine HCE.out.mono ?_
            rintro e w8 ⟨rfl, hw⟩
            subst hw
            go_wp2_with fail
            go_ret
            rw [HDD.out, HVV.out, ← HSX.out]
            exact ⟨HP1.out, rfl, fun _ => ⟨_, _, _, _, HP2.out, gro_ev HOW.out⟩⟩
        | false =>
          have c9 : ¬ clsAt (T.map bare) (oi + 3) = kPend := fun h => by rw [es3, h, beq_self_eq_true] at q9; cases q9
          cases q10 : (s3.toList == kDue) with
          | true =>
            have c10 : clsAt (T.map bare) (oi + 3) = kDue := es3.symm.trans (eq_of_beq q10)
            have l10 := HAL.out _ _ (by decide) c10
            obtain ⟨sd, hsd, esd⟩ := HC.out (oi + 4) (by omega)
            have b4 : (oi : Int) + 4 < ((T.length + 1 : Nat) : Int) := by omega
            cases q11 : (sd.toList == [100]) with
            | true =>
              have c11 : clsAt (T.map bare) (oi + 4) = [100] := esd.symm.trans (eq_of_beq q11)
              have l11 := HAL.out _ _ (by decide) c11
              have ht3 : oi + 3 + 1 < T.length := by have := HAL.out (oi + 3 + 1) [100] (by decide) c11; exact this
              obtain ⟨v3, hv3⟩ : ∃ v3, T[oi + 3 + 1]!.val = v3 := ⟨_, rfl⟩
              have v3c := HVC.out (oi + 3 + 1) ht3
              rw [hv3] at v3c
              have hT3 : (oi : Int) + 4 < (T.length : Int) := by omega
              clear es3 esd
              have m1 : dMay (T.map bare) kExc (oi + 2) = oi + 3 := by unfold dMay; rw [if_pos c7]
              have m2 : dMay (T.map bare) kDone (oi + 3) = oi + 3 := by unfold dMay; rw [if_neg c8]
              have HDD : Hid (dEv (T.map bare) = dEnd (T.map bare) (oi + 3 + 2)) := Lib.hid (by rw [HKEY.out]; unfold dE2; rw [m1, m2]; unfold dDue; rw [if_neg c9, if_pos c10, if_pos c11])
              have x0 := B.cell_blk (i := 0) HX.out rfl
              have x1 := B.cell_blk (i := 1) HX.out rfl
              have x2 := B.cell_blk (i := 2) HX.out rfl
              have x3 := B.cell_blk (i := 3) HX.out rfl
              have x4 := B.cell_blk (i := 4) HX.out rfl
              have x5 := B.cell_blk (i := 5) HX.out rfl
              have xf2 := B.frozen_blk (i := 2) HX.out
              have xf3 := B.frozen_blk (i := 3) HX.out
              have xf4 := B.frozen_blk (i := 4) HX.out
              have xf5 := B.frozen_blk (i := 5) HX.out
              have xl := B.blk_lt HX.out
              have hxz : xb ≠ kb := by omega
              have hxt : xb ≠ tb := by omega
              have HDV : Hid (dDueV (T.map bare) (oi + 3) = (v3 : Int)) := Lib.hid (by unfold dDueV; rw [if_neg c9, if_pos c10]; rw [val_at ht3, hv3])
              have HVV : Hid (evV (T.map bare) = ⟨n1, dOptV (T.map bare) [105, 110] 2, n2, false, false, (v3 : Int)⟩) := Lib.hid (by
                rw [HEV.out (by rw [m1, m2]; exact (fun _ => c11)), m1, m2, HTX.out, HTX2.out, HDV.out]
                rw [show (clsAt (T.map bare) (oi + 2) == kExc) = true from by rw [c7]; rfl, show (clsAt (T.map bare) (oi + 3) == kDone) = false from beq_eq_false_iff_ne.2 c8]
                rfl)
              clear m1 m2 c7 c8 c9 c10 c11 hv3
              obtain ⟨W, hW⟩ : ∃ W, W = (((wz.setCell ⟨xb, 2, none⟩ (.string ⟨n2.toArray⟩)).setCell ⟨xb, 3, none⟩ (.bool false)).setCell ⟨xb, 5, none⟩ (.int .i64 (v3 : Int))) := ⟨_, rfl⟩
              have HWX := Lib.hid (show W.heap[xb]? = some (.cells #[.string ⟨n1.toArray⟩, .string sx, .string ⟨n2.toArray⟩, .bool false, .bool false, .int .i64 (v3 : Int)] 40 (0, 0)) by rw [hW]; exact (B.blk_set (i := 5) (v := (.int .i64 (v3 : Int))) (B.blk_set (i := 3) (v := (.bool false)) (B.blk_set (i := 2) (v := (.string ⟨n2.toArray⟩)) HX.out))))
              have HWB := Lib.hid (show Below w.heap.size w W by rw [hW]; exact (((HB.out.setCell (p := ⟨xb, 2, none⟩) hxw (.string ⟨n2.toArray⟩)).setCell (p := ⟨xb, 3, none⟩) hxw (.bool false)).setCell (p := ⟨xb, 5, none⟩) hxw (.int .i64 (v3 : Int))))
              have y0 := B.cell_blk (i := 0) HWX.out rfl
              have y1 := B.cell_blk (i := 1) HWX.out rfl
              have y2 := B.cell_blk (i := 2) HWX.out rfl
              have y3 := B.cell_blk (i := 3) HWX.out rfl
              have y4 := B.cell_blk (i := 4) HWX.out rfl
              have y5 := B.cell_blk (i := 5) HWX.out rfl
              have yl := B.blk_lt HWX.out
              have HGW := Lib.hid ((HWB.out.block gb (B.blk_lt HG.out)).trans HG.out)
              have g1 := B.cell_blk (i := 1) HGW.out rfl
              have gl0 := B.blk_lt HG.out
              have gl := B.blk_lt HGW.out
              have HX1 := Lib.hid (B.heap_new W (.cells #[.string ⟨n1.toArray⟩, .string sx, .string ⟨n2.toArray⟩, .bool false, .bool false, .int .i64 (v3 : Int)] 40))
              have hws := HWB.out.size
              go_wp2_with fail
              rw [← hW]
              clear hW x0 x1 x2 x3 x4 x5 xf2 xf3 xf4 xf5 xl
              go_region_law (first
                | (refine step_append rfl (.tmp 101) (.tmp 103) 24 rfl w.heap.size 40 i0 _ 6 64 Tryz.underlying24 HI0.out HI1.out HI2.out HI3.out rfl (by omega) (.slice none 0 0) 0 [] rfl (World.ownsRow_nil _ _ _ _) ⟨W.heap.size, 0, none⟩ 1 1 [.string ⟨n1.toArray⟩, .string sx, .string ⟨n2.toArray⟩, .bool false, .bool false, .int .i64 (v3 : Int)] rfl rfl (fun j u hj => by rw [Addr.add_lit, Nat.zero_add]; exact B.cell_blk HX1.out (by simpa using hj)) (by intro u hu; simp at hu; rcases hu with rfl | rfl | rfl | rfl | rfl | rfl <;> rfl) (by unfold maxLen; omega) (by omega) (by simp; omega) ?_; intro v' w9 hown' hgrow; obtain ⟨pa, pc, rfl⟩ := B.own_slice hown'; obtain ⟨p1, p2, p3⟩ := after_put (i := 1) (v' := .slice pa 1 pc) (B.below_draws (HWB.out.alloc hws _) 1) HG.out hgrow; have HP1 := Lib.hid p1; have HP2 := Lib.hid p2; have HOW := Lib.hid (B.own_set (i := 1) hown' (own_off hown' gl0) (.slice pa 1 pc)); have f9 := B.frozen_blk (i := 1) p3; have q9 := B.cell_blk (i := 1) p3 rfl; have l9 := B.blk_lt p3; clear hown' hgrow p1 p2 p3))
              all_goals
                have CE := ends_any _ (some ⟨kb, ko, none⟩) kc (T.map bare) (oi + 5) (row_grown HK.out HFK.out HP1.out) (by rw [HL.out]; omega)
                rw [HL.out, show ((oi + 5 : Nat) : Int) = (oi : Int) + 5 from by omega] at CE
                have HCE := Lib.hid CE
                clear CE
                go_wp2_with fail
                refine HCE.out.mono ?_
                rintro e w8 ⟨rfl, hw⟩
                subst hw
                go_wp2_with fail
                go_ret
                rw [HDD.out, HVV.out, ← HSX.out]
                exact ⟨HP1.out, rfl, fun _ => ⟨_, _, _, _, HP2.out, gro_ev HOW.out⟩⟩
            | false =>
              have c11 : ¬ clsAt (T.map bare) (oi + 4) = [100] := fun h => by rw [esd, h, beq_self_eq_true] at q11; cases q11
              clear es3 esd
              have m1 : dMay (T.map bare) kExc (oi + 2) = oi + 3 := by unfold dMay; rw [if_pos c7]
              have m2 : dMay (T.map bare) kDone (oi + 3) = oi + 3 := by unfold dMay; rw [if_neg c8]
              have HDD : Hid (dEv (T.map bare) = (oi + 3 + 1, true)) := Lib.hid (by rw [HKEY.out]; unfold dE2; rw [m1, m2]; unfold dDue; rw [if_neg c9, if_pos c10, if_neg c11])
              have x0 := B.cell_blk (i := 0) HX.out rfl
              have x1 := B.cell_blk (i := 1) HX.out rfl
              have x2 := B.cell_blk (i := 2) HX.out rfl
              have x3 := B.cell_blk (i := 3) HX.out rfl
              have x4 := B.cell_blk (i := 4) HX.out rfl
              have x5 := B.cell_blk (i := 5) HX.out rfl
              have xf2 := B.frozen_blk (i := 2) HX.out
              have xf3 := B.frozen_blk (i := 3) HX.out
              have xf4 := B.frozen_blk (i := 4) HX.out
              have xf5 := B.frozen_blk (i := 5) HX.out
              have xl := B.blk_lt HX.out
              have hxz : xb ≠ kb := by omega
              have hxt : xb ≠ tb := by omega
              have HGW := Lib.hid HB.out
              clear m1 m2 c7 c8 c9 c10 c11
              go_wp2_with fail
              go_ret
              rw [HDD.out]
              exact sg_bad (grown_of ((HB.out.setCell (p := ⟨xb, 2, none⟩) hxw (.string ⟨n2.toArray⟩)).setCell (p := ⟨xb, 3, none⟩) hxw (.bool false)))
          | false =>
            have c10 : ¬ clsAt (T.map bare) (oi + 3) = kDue := fun h => by rw [es3, h, beq_self_eq_true] at q10; cases q10
            clear es3
            have m1 : dMay (T.map bare) kExc (oi + 2) = oi + 3 := by unfold dMay; rw [if_pos c7]
            have m2 : dMay (T.map bare) kDone (oi + 3) = oi + 3 := by unfold dMay; rw [if_neg c8]
            have HDD : Hid (dEv (T.map bare) = dEnd (T.map bare) (oi + 3)) := Lib.hid (by rw [HKEY.out]; unfold dE2; rw [m1, m2]; unfold dDue; rw [if_neg c9, if_neg c10])
            have x0 := B.cell_blk (i := 0) HX.out rfl
            have x1 := B.cell_blk (i := 1) HX.out rfl
            have x2 := B.cell_blk (i := 2) HX.out rfl
            have x3 := B.cell_blk (i := 3) HX.out rfl
            have x4 := B.cell_blk (i := 4) HX.out rfl
            have x5 := B.cell_blk (i := 5) HX.out rfl
            have xf2 := B.frozen_blk (i := 2) HX.out
            have xf3 := B.frozen_blk (i := 3) HX.out
            have xf4 := B.frozen_blk (i := 4) HX.out
            have xf5 := B.frozen_blk (i := 5) HX.out
            have xl := B.blk_lt HX.out
            have hxz : xb ≠ kb := by omega
            have hxt : xb ≠ tb := by omega
            have HDV : Hid (dDueV (T.map bare) (oi + 3) = (-1)) := Lib.hid (by unfold dDueV; rw [if_neg c9, if_neg c10])
            have HVV : Hid (evV (T.map bare) = ⟨n1, dOptV (T.map bare) [105, 110] 2, n2, false, false, (-1)⟩) := Lib.hid (by
              rw [HEV.out (by rw [m1, m2]; exact (fun h => absurd h c10)), m1, m2, HTX.out, HTX2.out, HDV.out]
              rw [show (clsAt (T.map bare) (oi + 2) == kExc) = true from by rw [c7]; rfl, show (clsAt (T.map bare) (oi + 3) == kDone) = false from beq_eq_false_iff_ne.2 c8]
              rfl)
            clear m1 m2 c7 c8 c9 c10
            obtain ⟨W, hW⟩ : ∃ W, W = ((wz.setCell ⟨xb, 2, none⟩ (.string ⟨n2.toArray⟩)).setCell ⟨xb, 3, none⟩ (.bool false)) := ⟨_, rfl⟩
            have HWX := Lib.hid (show W.heap[xb]? = some (.cells #[.string ⟨n1.toArray⟩, .string sx, .string ⟨n2.toArray⟩, .bool false, .bool false, .int .i64 (-1)] 40 (0, 0)) by rw [hW]; exact (B.blk_set (i := 3) (v := (.bool false)) (B.blk_set (i := 2) (v := (.string ⟨n2.toArray⟩)) HX.out)))
            have HWB := Lib.hid (show Below w.heap.size w W by rw [hW]; exact ((HB.out.setCell (p := ⟨xb, 2, none⟩) hxw (.string ⟨n2.toArray⟩)).setCell (p := ⟨xb, 3, none⟩) hxw (.bool false)))
            have y0 := B.cell_blk (i := 0) HWX.out rfl
            have y1 := B.cell_blk (i := 1) HWX.out rfl
            have y2 := B.cell_blk (i := 2) HWX.out rfl
            have y3 := B.cell_blk (i := 3) HWX.out rfl
            have y4 := B.cell_blk (i := 4) HWX.out rfl
            have y5 := B.cell_blk (i := 5) HWX.out rfl
            have yl := B.blk_lt HWX.out
            have HGW := Lib.hid ((HWB.out.block gb (B.blk_lt HG.out)).trans HG.out)
            have g1 := B.cell_blk (i := 1) HGW.out rfl
            have gl0 := B.blk_lt HG.out
            have gl := B.blk_lt HGW.out
            have HX1 := Lib.hid (B.heap_new W (.cells #[.string ⟨n1.toArray⟩, .string sx, .string ⟨n2.toArray⟩, .bool false, .bool false, .int .i64 (-1)] 40))
            have hws := HWB.out.size
            go_wp2_with fail
            rw [← hW]
            clear hW x0 x1 x2 x3 x4 x5 xf2 xf3 xf4 xf5 xl
            go_region_law (first
              | (refine step_append rfl (.tmp 101) (.tmp 103) 24 rfl w.heap.size 40 i0 _ 6 64 Tryz.underlying24 HI0.out HI1.out HI2.out HI3.out rfl (by omega) (.slice none 0 0) 0 [] rfl (World.ownsRow_nil _ _ _ _) ⟨W.heap.size, 0, none⟩ 1 1 [.string ⟨n1.toArray⟩, .string sx, .string ⟨n2.toArray⟩, .bool false, .bool false, .int .i64 (-1)] rfl rfl (fun j u hj => by rw [Addr.add_lit, Nat.zero_add]; exact B.cell_blk HX1.out (by simpa using hj)) (by intro u hu; simp at hu; rcases hu with rfl | rfl | rfl | rfl | rfl | rfl <;> rfl) (by unfold maxLen; omega) (by omega) (by simp; omega) ?_; intro v' w9 hown' hgrow; obtain ⟨pa, pc, rfl⟩ := B.own_slice hown'; obtain ⟨p1, p2, p3⟩ := after_put (i := 1) (v' := .slice pa 1 pc) (B.below_draws (HWB.out.alloc hws _) 1) HG.out hgrow; have HP1 := Lib.hid p1; have HP2 := Lib.hid p2; have HOW := Lib.hid (B.own_set (i := 1) hown' (own_off hown' gl0) (.slice pa 1 pc)); have f9 := B.frozen_blk (i := 1) p3; have q9 := B.cell_blk (i := 1) p3 rfl; have l9 := B.blk_lt p3; clear hown' hgrow p1 p2 p3))
            all_goals
              have CE := ends_any _ (some ⟨kb, ko, none⟩) kc (T.map bare) (oi + 3) (row_grown HK.out HFK.out HP1.out) (by rw [HL.out]; omega)
              rw [HL.out, show ((oi + 3 : Nat) : Int) = (oi : Int) + 3 from by omega] at CE
              have HCE := Lib.hid CE
              clear CE
              go_wp2_with fail
              refine HCE.out.mono ?_
              rintro e w8 ⟨rfl, hw⟩
              subst hw
              go_wp2_with fail
              go_ret
              rw [HDD.out, HVV.out, ← HSX.out]
              exact ⟨HP1.out, rfl, fun _ => ⟨_, _, _, _, HP2.out, gro_ev HOW.out⟩⟩
    | false =>
      have c7 : ¬ clsAt (T.map bare) (oi + 2) = kExc := fun h => by rw [es2, h, beq_self_eq_true] at q7; cases q7
      cases q8 : (s2.toList == kDone) with
      | true =>
        have c8 : clsAt (T.map bare) (oi + 2) = kDone := es2.symm.trans (eq_of_beq q8)
        have l8 := HAL.out _ _ (by decide) c8
        clear es2
        obtain ⟨sq, hsq, esq⟩ := HC.out (oi + 3) (by omega)
        have b3 : (oi : Int) + 3 < ((T.length + 1 : Nat) : Int) := by omega
        cases q9 : (sq.toList == kPend) with
        | true =>
          have c9 : clsAt (T.map bare) (oi + 3) = kPend := esq.symm.trans (eq_of_beq q9)
          have l9 := HAL.out _ _ (by decide) c9
          clear esq
          have m1 : dMay (T.map bare) kExc (oi + 2) = oi + 2 := by unfold dMay; rw [if_neg c7]
          have m2 : dMay (T.map bare) kDone (oi + 2) = oi + 3 := by unfold dMay; rw [if_pos c8]
          have HDD : Hid (dEv (T.map bare) = dEnd (T.map bare) (oi + 3 + 1)) := Lib.hid (by rw [HKEY.out]; unfold dE2; rw [m1, m2]; unfold dDue; rw [if_pos c9])
          have x0 := B.cell_blk (i := 0) HX.out rfl
          have x1 := B.cell_blk (i := 1) HX.out rfl
          have x2 := B.cell_blk (i := 2) HX.out rfl
          have x3 := B.cell_blk (i := 3) HX.out rfl
          have x4 := B.cell_blk (i := 4) HX.out rfl
          have x5 := B.cell_blk (i := 5) HX.out rfl
          have xf2 := B.frozen_blk (i := 2) HX.out
          have xf3 := B.frozen_blk (i := 3) HX.out
          have xf4 := B.frozen_blk (i := 4) HX.out
          have xf5 := B.frozen_blk (i := 5) HX.out
          have xl := B.blk_lt HX.out
          have hxz : xb ≠ kb := by omega
          have hxt : xb ≠ tb := by omega
          have HDV : Hid (dDueV (T.map bare) (oi + 3) = 1048576) := Lib.hid (by unfold dDueV; rw [if_pos c9])
          have HVV : Hid (evV (T.map bare) = ⟨n1, dOptV (T.map bare) [105, 110] 2, n2, true, true, 1048576⟩) := Lib.hid (by
            rw [HEV.out (by rw [m1, m2]; exact (fun h => by rw [c9] at h; exact absurd h (by decide))), m1, m2, HTX.out, HTX2.out, HDV.out]
            rw [show (clsAt (T.map bare) (oi + 2) == kExc) = false from beq_eq_false_iff_ne.2 c7, show (clsAt (T.map bare) (oi + 2) == kDone) = true from by rw [c8]; rfl]
            rfl)
          clear m1 m2 c7 c8 c9
          obtain ⟨W, hW⟩ : ∃ W, W = (((wz.setCell ⟨xb, 2, none⟩ (.string ⟨n2.toArray⟩)).setCell ⟨xb, 4, none⟩ (.bool true)).setCell ⟨xb, 5, none⟩ (.int .i64 1048576)) := ⟨_, rfl⟩
          have HWX := Lib.hid (show W.heap[xb]? = some (.cells #[.string ⟨n1.toArray⟩, .string sx, .string ⟨n2.toArray⟩, .bool true, .bool true, .int .i64 1048576] 40 (0, 0)) by rw [hW]; exact (B.blk_set (i := 5) (v := (.int .i64 1048576)) (B.blk_set (i := 4) (v := (.bool true)) (B.blk_set (i := 2) (v := (.string ⟨n2.toArray⟩)) HX.out))))
          have HWB := Lib.hid (show Below w.heap.size w W by rw [hW]; exact (((HB.out.setCell (p := ⟨xb, 2, none⟩) hxw (.string ⟨n2.toArray⟩)).setCell (p := ⟨xb, 4, none⟩) hxw (.bool true)).setCell (p := ⟨xb, 5, none⟩) hxw (.int .i64 1048576)))
          have y0 := B.cell_blk (i := 0) HWX.out rfl
          have y1 := B.cell_blk (i := 1) HWX.out rfl
          have y2 := B.cell_blk (i := 2) HWX.out rfl
          have y3 := B.cell_blk (i := 3) HWX.out rfl
          have y4 := B.cell_blk (i := 4) HWX.out rfl
          have y5 := B.cell_blk (i := 5) HWX.out rfl
          have yl := B.blk_lt HWX.out
          have HGW := Lib.hid ((HWB.out.block gb (B.blk_lt HG.out)).trans HG.out)
          have g1 := B.cell_blk (i := 1) HGW.out rfl
          have gl0 := B.blk_lt HG.out
          have gl := B.blk_lt HGW.out
          have HX1 := Lib.hid (B.heap_new W (.cells #[.string ⟨n1.toArray⟩, .string sx, .string ⟨n2.toArray⟩, .bool true, .bool true, .int .i64 1048576] 40))
          have hws := HWB.out.size
          go_wp2_with fail
          rw [← hW]
          clear hW x0 x1 x2 x3 x4 x5 xf2 xf3 xf4 xf5 xl
          go_region_law (first
            | (refine step_append rfl (.tmp 101) (.tmp 103) 24 rfl w.heap.size 40 i0 _ 6 64 Tryz.underlying24 HI0.out HI1.out HI2.out HI3.out rfl (by omega) (.slice none 0 0) 0 [] rfl (World.ownsRow_nil _ _ _ _) ⟨W.heap.size, 0, none⟩ 1 1 [.string ⟨n1.toArray⟩, .string sx, .string ⟨n2.toArray⟩, .bool true, .bool true, .int .i64 1048576] rfl rfl (fun j u hj => by rw [Addr.add_lit, Nat.zero_add]; exact B.cell_blk HX1.out (by simpa using hj)) (by intro u hu; simp at hu; rcases hu with rfl | rfl | rfl | rfl | rfl | rfl <;> rfl) (by unfold maxLen; omega) (by omega) (by simp; omega) ?_; intro v' w9 hown' hgrow; obtain ⟨pa, pc, rfl⟩ := B.own_slice hown'; obtain ⟨p1, p2, p3⟩ := after_put (i := 1) (v' := .slice pa 1 pc) (B.below_draws (HWB.out.alloc hws _) 1) HG.out hgrow; have HP1 := Lib.hid p1; have HP2 := Lib.hid p2; have HOW := Lib.hid (B.own_set (i := 1) hown' (own_off hown' gl0) (.slice pa 1 pc)); have f9 := B.frozen_blk (i := 1) p3; have q9 := B.cell_blk (i := 1) p3 rfl; have l9 := B.blk_lt p3; clear hown' hgrow p1 p2 p3))
          all_goals
            have CE := ends_any _ (some ⟨kb, ko, none⟩) kc (T.map bare) (oi + 4) (row_grown HK.out HFK.out HP1.out) (by rw [HL.out]; omega)
            rw [HL.out, show ((oi + 4 : Nat) : Int) = (oi : Int) + 4 from by omega] at CE
            have HCE := Lib.hid CE
            clear CE
            go_wp2_with fail
            refine HCE.out.mono ?_
            rintro e w8 ⟨rfl, hw⟩
            subst hw
            go_wp2_with fail
            go_ret
            rw [HDD.out, HVV.out, ← HSX.out]
            exact ⟨HP1.out, rfl, fun _ => ⟨_, _, _, _, HP2.out, gro_ev HOW.out⟩⟩
        | false =>
          have c9 : ¬ clsAt (T.map bare) (oi + 3) = kPend := fun h => by rw [esq, h, beq_self_eq_true] at q9; cases q9
          cases q10 : (sq.toList == kDue) with
          | true =>
            have c10 : clsAt (T.map bare) (oi + 3) = kDue := esq.symm.trans (eq_of_beq q10)
            have l10 := HAL.out _ _ (by decide) c10
            obtain ⟨sd, hsd, esd⟩ := HC.out (oi + 4) (by omega)
            have b4 : (oi : Int) + 4 < ((T.length + 1 : Nat) : Int) := by omega
            cases q11 : (sd.toList == [100]) with
            | true =>
              have c11 : clsAt (T.map bare) (oi + 4) = [100] := esd.symm.trans (eq_of_beq q11)
              have l11 := HAL.out _ _ (by decide) c11
              have ht3 : oi + 3 + 1 < T.length := by have := HAL.out (oi + 3 + 1) [100] (by decide) c11; exact this
              obtain ⟨v3, hv3⟩ : ∃ v3, T[oi + 3 + 1]!.val = v3 := ⟨_, rfl⟩
              have v3c := HVC.out (oi + 3 + 1) ht3
              rw [hv3] at v3c
              have hT3 : (oi : Int) + 4 < (T.length : Int) := by omega
              clear esq esd
              have m1 : dMay (T.map bare) kExc (oi + 2) = oi + 2 := by unfold dMay; rw [if_neg c7]
              have m2 : dMay (T.map bare) kDone (oi + 2) = oi + 3 := by unfold dMay; rw [if_pos c8]
              have HDD : Hid (dEv (T.map bare) = dEnd (T.map bare) (oi + 3 + 2)) := Lib.hid (by rw [HKEY.out]; unfold dE2; rw [m1, m2]; unfold dDue; rw [if_neg c9, if_pos c10, if_pos c11])
              have x0 := B.cell_blk (i := 0) HX.out rfl
              have x1 := B.cell_blk (i := 1) HX.out rfl
              have x2 := B.cell_blk (i := 2) HX.out rfl
              have x3 := B.cell_blk (i := 3) HX.out rfl
              have x4 := B.cell_blk (i := 4) HX.out rfl
              have x5 := B.cell_blk (i := 5) HX.out rfl
              have xf2 := B.frozen_blk (i := 2) HX.out
              have xf3 := B.frozen_blk (i := 3) HX.out
              have xf4 := B.frozen_blk (i := 4) HX.out
              have xf5 := B.frozen_blk (i := 5) HX.out
              have xl := B.blk_lt HX.out
              have hxz : xb ≠ kb := by omega
              have hxt : xb ≠ tb := by omega
              have HDV : Hid (dDueV (T.map bare) (oi + 3) = (v3 : Int)) := Lib.hid (by unfold dDueV; rw [if_neg c9, if_pos c10]; rw [val_at ht3, hv3])
              have HVV : Hid (evV (T.map bare) = ⟨n1, dOptV (T.map bare) [105, 110] 2, n2, true, true, (v3 : Int)⟩) := Lib.hid (by
                rw [HEV.out (by rw [m1, m2]; exact (fun _ => c11)), m1, m2, HTX.out, HTX2.out, HDV.out]
                rw [show (clsAt (T.map bare) (oi + 2) == kExc) = false from beq_eq_false_iff_ne.2 c7, show (clsAt (T.map bare) (oi + 2) == kDone) = true from by rw [c8]; rfl]
                rfl)
              clear m1 m2 c7 c8 c9 c10 c11 hv3
              obtain ⟨W, hW⟩ : ∃ W, W = (((wz.setCell ⟨xb, 2, none⟩ (.string ⟨n2.toArray⟩)).setCell ⟨xb, 4, none⟩ (.bool true)).setCell ⟨xb, 5, none⟩ (.int .i64 (v3 : Int))) := ⟨_, rfl⟩
              have HWX := Lib.hid (show W.heap[xb]? = some (.cells #[.string ⟨n1.toArray⟩, .string sx, .string ⟨n2.toArray⟩, .bool true, .bool true, .int .i64 (v3 : Int)] 40 (0, 0)) by rw [hW]; exact (B.blk_set (i := 5) (v := (.int .i64 (v3 : Int))) (B.blk_set (i := 4) (v := (.bool true)) (B.blk_set (i := 2) (v := (.string ⟨n2.toArray⟩)) HX.out))))
              have HWB := Lib.hid (show Below w.heap.size w W by rw [hW]; exact (((HB.out.setCell (p := ⟨xb, 2, none⟩) hxw (.string ⟨n2.toArray⟩)).setCell (p := ⟨xb, 4, none⟩) hxw (.bool true)).setCell (p := ⟨xb, 5, none⟩) hxw (.int .i64 (v3 : Int))))
              have y0 := B.cell_blk (i := 0) HWX.out rfl
              have y1 := B.cell_blk (i := 1) HWX.out rfl
              have y2 := B.cell_blk (i := 2) HWX.out rfl
              have y3 := B.cell_blk (i := 3) HWX.out rfl
              have y4 := B.cell_blk (i := 4) HWX.out rfl
              have y5 := B.cell_blk (i := 5) HWX.out rfl
              have yl := B.blk_lt HWX.out
              have HGW := Lib.hid ((HWB.out.block gb (B.blk_lt HG.out)).trans HG.out)
              have g1 := B.cell_blk (i := 1) HGW.out rfl
              have gl0 := B.blk_lt HG.out
              have gl := B.blk_lt HGW.out
              have HX1 := Lib.hid (B.heap_new W (.cells #[.string ⟨n1.toArray⟩, .string sx, .string ⟨n2.toArray⟩, .bool true, .bool true, .int .i64 (v3 : Int)] 40))
              have hws := HWB.out.size
              go_wp2_with fail
              rw [← hW]
              clear hW x0 x1 x2 x3 x4 x5 xf2 xf3 xf4 xf5 xl
              go_region_law (first
                | (refine step_append rfl (.tmp 101) (.tmp 103) 24 rfl w.heap.size 40 i0 _ 6 64 Tryz.underlying24 HI0.out HI1.out HI2.out HI3.out rfl (by omega) (.slice none 0 0) 0 [] rfl (World.ownsRow_nil _ _ _ _) ⟨W.heap.size, 0, none⟩ 1 1 [.string ⟨n1.toArray⟩, .string sx, .string ⟨n2.toArray⟩, .bool true, .bool true, .int .i64 (v3 : Int)] rfl rfl (fun j u hj => by rw [Addr.add_lit, Nat.zero_add]; exact B.cell_blk HX1.out (by simpa using hj)) (by intro u hu; simp at hu; rcases hu with rfl | rfl | rfl | rfl | rfl | rfl <;> rfl) (by unfold maxLen; omega) (by omega) (by simp; omega) ?_; intro v' w9 hown' hgrow; obtain ⟨pa, pc, rfl⟩ := B.own_slice hown'; obtain ⟨p1, p2, p3⟩ := after_put (i := 1) (v' := .slice pa 1 pc) (B.below_draws (HWB.out.alloc hws _) 1) HG.out hgrow; have HP1 := Lib.hid p1; have HP2 := Lib.hid p2; have HOW := Lib.hid (B.own_set (i := 1) hown' (own_off hown' gl0) (.slice pa 1 pc)); have f9 := B.frozen_blk (i := 1) p3; have q9 := B.cell_blk (i := 1) p3 rfl; have l9 := B.blk_lt p3; clear hown' hgrow p1 p2 p3))
              all_goals
                have CE := ends_any _ (some ⟨kb, ko, none⟩) kc (T.map bare) (oi + 5) (row_grown HK.out HFK.out HP1.out) (by rw [HL.out]; omega)
                rw [HL.out, show ((oi + 5 : Nat) : Int) = (oi : Int) + 5 from by omega] at CE
                have HCE := Lib.hid CE
                clear CE
                go_wp2_with fail
                refine HCE.out.mono ?_
                rintro e w8 ⟨rfl, hw⟩
                subst hw
                go_wp2_with fail
                go_ret
                rw [HDD.out, HVV.out, ← HSX.out]
                exact ⟨HP1.out, rfl, fun _ => ⟨_, _, _, _, HP2.out, gro_ev HOW.out⟩⟩
            | false =>
              have c11 : ¬ clsAt (T.map bare) (oi + 4) = [100] := fun h => by rw [esd, h, beq_self_eq_true] at q11; cases q11
              clear esq esd
              have m1 : dMay (T.map bare) kExc (oi + 2) = oi + 2 := by unfold dMay; rw [if_neg c7]
              have m2 : dMay (T.map bare) kDone (oi + 2) = oi + 3 := by unfold dMay; rw [if_pos c8]
              have HDD : Hid (dEv (T.map bare) = (oi + 3 + 1, true)) := Lib.hid (by rw [HKEY.out]; unfold dE2; rw [m1, m2]; unfold dDue; rw [if_neg c9, if_pos c10, if_neg c11])
              have x0 := B.cell_blk (i := 0) HX.out rfl
              have x1 := B.cell_blk (i := 1) HX.out rfl
              have x2 := B.cell_blk (i := 2) HX.out rfl
              have x3 := B.cell_blk (i := 3) HX.out rfl
              have x4 := B.cell_blk (i := 4) HX.out rfl
              have x5 := B.cell_blk (i := 5) HX.out rfl
              have xf2 := B.frozen_blk (i := 2) HX.out
              have xf3 := B.frozen_blk (i := 3) HX.out
              have xf4 := B.frozen_blk (i := 4) HX.out
              have xf5 := B.frozen_blk (i := 5) HX.out
              have xl := B.blk_lt HX.out
              have hxz : xb ≠ kb := by omega
              have hxt : xb ≠ tb := by omega
              have HGW := Lib.hid HB.out
              clear m1 m2 c7 c8 c9 c10 c11
              go_wp2_with fail
              go_ret
              rw [HDD.out]
              exact sg_bad (grown_of ((HB.out.setCell (p := ⟨xb, 2, none⟩) hxw (.string ⟨n2.toArray⟩)).setCell (p := ⟨xb, 4, none⟩) hxw (.bool true)))
          | false =>
            have c10 : ¬ clsAt (T.map bare) (oi + 3) = kDue := fun h => by rw [esq, h, beq_self_eq_true] at q10; cases q10
            clear esq
            have m1 : dMay (T.map bare) kExc (oi + 2) = oi + 2 := by unfold dMay; rw [if_neg c7]
            have m2 : dMay (T.map bare) kDone (oi + 2) = oi + 3 := by unfold dMay; rw [if_pos c8]
            have HDD : Hid (dEv (T.map bare) = dEnd (T.map bare) (oi + 3)) := Lib.hid (by rw [HKEY.out]; unfold dE2; rw [m1, m2]; unfold dDue; rw [if_neg c9, if_neg c10])
            have x0 := B.cell_blk (i := 0) HX.out rfl
            have x1 := B.cell_blk (i := 1) HX.out rfl
            have x2 := B.cell_blk (i := 2) HX.out rfl
            have x3 := B.cell_blk (i := 3) HX.out rfl
            have x4 := B.cell_blk (i := 4) HX.out rfl
            have x5 := B.cell_blk (i := 5) HX.out rfl
            have xf2 := B.frozen_blk (i := 2) HX.out
            have xf3 := B.frozen_blk (i := 3) HX.out
            have xf4 := B.frozen_blk (i := 4) HX.out
            have xf5 := B.frozen_blk (i := 5) HX.out
            have xl := B.blk_lt HX.out
            have hxz : xb ≠ kb := by omega
            have hxt : xb ≠ tb := by omega
            have HDV : Hid (dDueV (T.map bare) (oi + 3) = (-1)) := Lib.hid (by unfold dDueV; rw [if_neg c9, if_neg c10])
            have HVV : Hid (evV (T.map bare) = ⟨n1, dOptV (T.map bare) [105, 110] 2, n2, true, true, (-1)⟩) := Lib.hid (by
              rw [HEV.out (by rw [m1, m2]; exact (fun h => absurd h c10)), m1, m2, HTX.out, HTX2.out, HDV.out]
              rw [show (clsAt (T.map bare) (oi + 2) == kExc) = false from beq_eq_false_iff_ne.2 c7, show (clsAt (T.map bare) (oi + 2) == kDone) = true from by rw [c8]; rfl]
              rfl)
            clear m1 m2 c7 c8 c9 c10
            obtain ⟨W, hW⟩ : ∃ W, W = ((wz.setCell ⟨xb, 2, none⟩ (.string ⟨n2.toArray⟩)).setCell ⟨xb, 4, none⟩ (.bool true)) := ⟨_, rfl⟩
            have HWX := Lib.hid (show W.heap[xb]? = some (.cells #[.string ⟨n1.toArray⟩, .string sx, .string ⟨n2.toArray⟩, .bool true, .bool true, .int .i64 (-1)] 40 (0, 0)) by rw [hW]; exact (B.blk_set (i := 4) (v := (.bool true)) (B.blk_set (i := 2) (v := (.string ⟨n2.toArray⟩)) HX.out)))
            have HWB := Lib.hid (show Below w.heap.size w W by rw [hW]; exact ((HB.out.setCell (p := ⟨xb, 2, none⟩) hxw (.string ⟨n2.toArray⟩)).setCell (p := ⟨xb, 4, none⟩) hxw (.bool true)))
            have y0 := B.cell_blk (i := 0) HWX.out rfl
            have y1 := B.cell_blk (i := 1) HWX.out rfl
            have y2 := B.cell_blk (i := 2) HWX.out rfl
            have y3 := B.cell_blk (i := 3) HWX.out rfl
            have y4 := B.cell_blk (i := 4) HWX.out rfl
            have y5 := B.cell_blk (i := 5) HWX.out rfl
            have yl := B.blk_lt HWX.out
            have HGW := Lib.hid ((HWB.out.block gb (B.blk_lt HG.out)).trans HG.out)
            have g1 := B.cell_blk (i := 1) HGW.out rfl
            have gl0 := B.blk_lt HG.out
            have gl := B.blk_lt HGW.out
            have HX1 := Lib.hid (B.heap_new W (.cells #[.string ⟨n1.toArray⟩, .string sx, .string ⟨n2.toArray⟩, .bool true, .bool true, .int .i64 (-1)] 40))
            have hws := HWB.out.size
            go_wp2_with fail
            rw [← hW]
            clear hW x0 x1 x2 x3 x4 x5 xf2 xf3 xf4 xf5 xl
            go_region_law (first
              | (refine step_append rfl (.tmp 101) (.tmp 103) 24 rfl w.heap.size 40 i0 _ 6 64 Tryz.underlying24 HI0.out HI1.out HI2.out HI3.out rfl (by omega) (.slice none 0 0) 0 [] rfl (World.ownsRow_nil _ _ _ _) ⟨W.heap.size, 0, none⟩ 1 1 [.string ⟨n1.toArray⟩, .string sx, .string ⟨n2.toArray⟩, .bool true, .bool true, .int .i64 (-1)] rfl rfl (fun j u hj => by rw [Addr.add_lit, Nat.zero_add]; exact B.cell_blk HX1.out (by simpa using hj)) (by intro u hu; simp at hu; rcases hu with rfl | rfl | rfl | rfl | rfl | rfl <;> rfl) (by unfold maxLen; omega) (by omega) (by simp; omega) ?_; intro v' w9 hown' hgrow; obtain ⟨pa, pc, rfl⟩ := B.own_slice hown'; obtain ⟨p1, p2, p3⟩ := after_put (i := 1) (v' := .slice pa 1 pc) (B.below_draws (HWB.out.alloc hws _) 1) HG.out hgrow; have HP1 := Lib.hid p1; have HP2 := Lib.hid p2; have HOW := Lib.hid (B.own_set (i := 1) hown' (own_off hown' gl0) (.slice pa 1 pc)); have f9 := B.frozen_blk (i := 1) p3; have q9 := B.cell_blk (i := 1) p3 rfl; have l9 := B.blk_lt p3; clear hown' hgrow p1 p2 p3))
            all_goals
              have CE := ends_any _ (some ⟨kb, ko, none⟩) kc (T.map bare) (oi + 3) (row_grown HK.out HFK.out HP1.out) (by rw [HL.out]; omega)
              rw [HL.out, show ((oi + 3 : Nat) : Int) = (oi : Int) + 3 from by omega] at CE
              have HCE := Lib.hid CE
              clear CE
              go_wp2_with fail
              refine HCE.out.mono ?_
              rintro e w8 ⟨rfl, hw⟩
              subst hw
              go_wp2_with fail
              go_ret
              rw [HDD.out, HVV.out, ← HSX.out]
              exact ⟨HP1.out, rfl, fun _ => ⟨_, _, _, _, HP2.out, gro_ev HOW.out⟩⟩
      | false =>
        have c8 : ¬ clsAt (T.map bare) (oi + 2) = kDone := fun h => by rw [es2, h, beq_self_eq_true] at q8; cases q8
        cases q9 : (s2.toList == kPend) with
        | true =>
          have c9 : clsAt (T.map bare) (oi + 2) = kPend := es2.symm.trans (eq_of_beq q9)
          have l9 := HAL.out _ _ (by decide) c9
          clear es2
          have m1 : dMay (T.map bare) kExc (oi + 2) = oi + 2 := by unfold dMay; rw [if_neg c7]
          have m2 : dMay (T.map bare) kDone (oi + 2) = oi + 2 := by unfold dMay; rw [if_neg c8]
          have HDD : Hid (dEv (T.map bare) = dEnd (T.map bare) (oi + 2 + 1)) := Lib.hid (by rw [HKEY.out]; unfold dE2; rw [m1, m2]; unfold dDue; rw [if_pos c9])
          have x0 := B.cell_blk (i := 0) HX.out rfl
          have x1 := B.cell_blk (i := 1) HX.out rfl
          have x2 := B.cell_blk (i := 2) HX.out rfl
          have x3 := B.cell_blk (i := 3) HX.out rfl
          have x4 := B.cell_blk (i := 4) HX.out rfl
          have x5 := B.cell_blk (i := 5) HX.out rfl
          have xf2 := B.frozen_blk (i := 2) HX.out
          have xf3 := B.frozen_blk (i := 3) HX.out
          have xf4 := B.frozen_blk (i := 4) HX.out
          have xf5 := B.frozen_blk (i := 5) HX.out
          have xl := B.blk_lt HX.out
          have hxz : xb ≠ kb := by omega
          have hxt : xb ≠ tb := by omega
          have HDV : Hid (dDueV (T.map bare) (oi + 2) = 1048576) := Lib.hid (by unfold dDueV; rw [if_pos c9])
          have HVV : Hid (evV (T.map bare) = ⟨n1, dOptV (T.map bare) [105, 110] 2, n2, true, false, 1048576⟩) := Lib.hid (by
            rw [HEV.out (by rw [m1, m2]; exact (fun h => by rw [c9] at h; exact absurd h (by decide))), m1, m2, HTX.out, HTX2.out, HDV.out]
            rw [show (clsAt (T.map bare) (oi + 2) == kExc) = false from beq_eq_false_iff_ne.2 c7, show (clsAt (T.map bare) (oi + 2) == kDone) = false from beq_eq_false_iff_ne.2 c8]
            rfl)
          clear m1 m2 c7 c8 c9
          obtain ⟨W, hW⟩ : ∃ W, W = ((wz.setCell ⟨xb, 2, none⟩ (.string ⟨n2.toArray⟩)).setCell ⟨xb, 5, none⟩ (.int .i64 1048576)) := ⟨_, rfl⟩
          have HWX := Lib.hid (show W.heap[xb]? = some (.cells #[.string ⟨n1.toArray⟩, .string sx, .string ⟨n2.toArray⟩, .bool true, .bool false, .int .i64 1048576] 40 (0, 0)) by rw [hW]; exact (B.blk_set (i := 5) (v := (.int .i64 1048576)) (B.blk_set (i := 2) (v := (.string ⟨n2.toArray⟩)) HX.out)))
          have HWB := Lib.hid (show Below w.heap.size w W by rw [hW]; exact ((HB.out.setCell (p := ⟨xb, 2, none⟩) hxw (.string ⟨n2.toArray⟩)).setCell (p := ⟨xb, 5, none⟩) hxw (.int .i64 1048576)))
          have y0 := B.cell_blk (i := 0) HWX.out rfl
          have y1 := B.cell_blk (i := 1) HWX.out rfl
          have y2 := B.cell_blk (i := 2) HWX.out rfl
          have y3 := B.cell_blk (i := 3) HWX.out rfl
          have y4 := B.cell_blk (i := 4) HWX.out rfl
          have y5 := B.cell_blk (i := 5) HWX.out rfl
          have yl := B.blk_lt HWX.out
          have HGW := Lib.hid ((HWB.out.block gb (B.blk_lt HG.out)).trans HG.out)
          have g1 := B.cell_blk (i := 1) HGW.out rfl
          have gl0 := B.blk_lt HG.out
          have gl := B.blk_lt HGW.out
          have HX1 := Lib.hid (B.heap_new W (.cells #[.string ⟨n1.toArray⟩, .string sx, .string ⟨n2.toArray⟩, .bool true, .bool false, .int .i64 1048576] 40))
          have hws := HWB.out.size
          go_wp2_with fail
          rw [← hW]
          clear hW x0 x1 x2 x3 x4 x5 xf2 xf3 xf4 xf5 xl
          go_region_law (first
            | (refine step_append rfl (.tmp 101) (.tmp 103) 24 rfl w.heap.size 40 i0 _ 6 64 Tryz.underlying24 HI0.out HI1.out HI2.out HI3.out rfl (by omega) (.slice none 0 0) 0 [] rfl (World.ownsRow_nil _ _ _ _) ⟨W.heap.size, 0, none⟩ 1 1 [.string ⟨n1.toArray⟩, .string sx, .string ⟨n2.toArray⟩, .bool true, .bool false, .int .i64 1048576] rfl rfl (fun j u hj => by rw [Addr.add_lit, Nat.zero_add]; exact B.cell_blk HX1.out (by simpa using hj)) (by intro u hu; simp at hu; rcases hu with rfl | rfl | rfl | rfl | rfl | rfl <;> rfl) (by unfold maxLen; omega) (by omega) (by simp; omega) ?_; intro v' w9 hown' hgrow; obtain ⟨pa, pc, rfl⟩ := B.own_slice hown'; obtain ⟨p1, p2, p3⟩ := after_put (i := 1) (v' := .slice pa 1 pc) (B.below_draws (HWB.out.alloc hws _) 1) HG.out hgrow; have HP1 := Lib.hid p1; have HP2 := Lib.hid p2; have HOW := Lib.hid (B.own_set (i := 1) hown' (own_off hown' gl0) (.slice pa 1 pc)); have f9 := B.frozen_blk (i := 1) p3; have q9 := B.cell_blk (i := 1) p3 rfl; have l9 := B.blk_lt p3; clear hown' hgrow p1 p2 p3))
          all_goals
            have CE := ends_any _ (some ⟨kb, ko, none⟩) kc (T.map bare) (oi + 3) (row_grown HK.out HFK.out HP1.out) (by rw [HL.out]; omega)
            rw [HL.out, show ((oi + 3 : Nat) : Int) = (oi : Int) + 3 from by omega] at CE
            have HCE := Lib.hid CE
            clear CE
            go_wp2_with fail
            refine HCE.out.mono ?_
            rintro e w8 ⟨rfl, hw⟩
            subst hw
            go_wp2_with fail
            go_ret
            rw [HDD.out, HVV.out, ← HSX.out]
            exact ⟨HP1.out, rfl, fun _ => ⟨_, _, _, _, HP2.out, gro_ev HOW.out⟩⟩
        | false =>
          have c9 : ¬ clsAt (T.map bare) (oi + 2) = kPend := fun h => by rw [es2, h, beq_self_eq_true] at q9; cases q9
          cases q10 : (s2.toList == kDue) with
          | true =>
            have c10 : clsAt (T.map bare) (oi + 2) = kDue := es2.symm.trans (eq_of_beq q10)
            have l10 := HAL.out _ _ (by decide) c10
            obtain ⟨sd, hsd, esd⟩ := HC.out (oi + 3) (by omega)
            have b3 : (oi : Int) + 3 < ((T.length + 1 : Nat) : Int) := by omega
            cases q11 : (sd.toList == [100]) with
            | true =>
              have c11 : clsAt (T.map bare) (oi + 3) = [100] := esd.symm.trans (eq_of_beq q11)
              have l11 := HAL.out _ _ (by decide) c11
              have ht3 : oi + 2 + 1 < T.length := by have := HAL.out (oi + 2 + 1) [100] (by decide) c11; exact this
              obtain ⟨v3, hv3⟩ : ∃ v3, T[oi + 2 + 1]!.val = v3 := ⟨_, rfl⟩
              have v3c := HVC.out (oi + 2 + 1) ht3
              rw [hv3] at v3c
              have hT3 : (oi : Int) + 3 < (T.length : Int) := by omega
              clear es2 esd
              have m1 : dMay (T.map bare) kExc (oi + 2) = oi + 2 := by unfold dMay; rw [if_neg c7]
              have m2 : dMay (T.map bare) kDone (oi + 2) = oi + 2 := by unfold dMay; rw [if_neg c8]
              have HDD : Hid (dEv (T.map bare) = dEnd (T.map bare) (oi + 2 + 2)) := Lib.hid (by rw [HKEY.out]; unfold dE2; rw [m1, m2]; unfold dDue; rw [if_neg c9, if_pos c10, if_pos c11])
              have x0 := B.cell_blk (i := 0) HX.out rfl
              have x1 := B.cell_blk (i := 1) HX.out rfl
              have x2 := B.cell_blk (i := 2) HX.out rfl
              have x3 := B.cell_blk (i := 3) HX.out rfl
              have x4 := B.cell_blk (i := 4) HX.out rfl
              have x5 := B.cell_blk (i := 5) HX.out rfl
              have xf2 := B.frozen_blk (i := 2) HX.out
              have xf3 := B.frozen_blk (i := 3) HX.out
              have xf4 := B.frozen_blk (i := 4) HX.out
              have xf5 := B.frozen_blk (i := 5) HX.out
              have xl := B.blk_lt HX.out
              have hxz : xb ≠ kb := by omega
              have hxt : xb ≠ tb := by omega
              have HDV : Hid (dDueV (T.map bare) (oi + 2) = (v3 : Int)) := Lib.hid (by unfold dDueV; rw [if_neg c9, if_pos c10]; rw [val_at ht3, hv3])
              have HVV : Hid (evV (T.map bare) = ⟨n1, dOptV (T.map bare) [105, 110] 2, n2, true, false, (v3 : Int)⟩) := Lib.hid (by
                rw [HEV.out (by rw [m1, m2]; exact (fun _ => c11)), m1, m2, HTX.out, HTX2.out, HDV.out]
                rw [show (clsAt (T.map bare) (oi + 2) == kExc) = false from beq_eq_false_iff_ne.2 c7, show (clsAt (T.map bare) (oi + 2) == kDone) = false from beq_eq_false_iff_ne.2 c8]
                rfl)
              clear m1 m2 c7 c8 c9 c10 c11 hv3
              obtain ⟨W, hW⟩ : ∃ W, W = ((wz.setCell ⟨xb, 2, none⟩ (.string ⟨n2.toArray⟩)).setCell ⟨xb, 5, none⟩ (.int .i64 (v3 : Int))) := ⟨_, rfl⟩
              have HWX := Lib.hid (show W.heap[xb]? = some (.cells #[.string ⟨n1.toArray⟩, .string sx, .string ⟨n2.toArray⟩, .bool true, .bool false, .int .i64 (v3 : Int)] 40 (0, 0)) by rw [hW]; exact (B.blk_set (i := 5) (v := (.int .i64 (v3 : Int))) (B.blk_set (i := 2) (v := (.string ⟨n2.toArray⟩)) HX.out)))
              have HWB := Lib.hid (show Below w.heap.size w W by rw [hW]; exact ((HB.out.setCell (p := ⟨xb, 2, none⟩) hxw (.string ⟨n2.toArray⟩)).setCell (p := ⟨xb, 5, none⟩) hxw (.int .i64 (v3 : Int))))
              have y0 := B.cell_blk (i := 0) HWX.out rfl
              have y1 := B.cell_blk (i := 1) HWX.out rfl
              have y2 := B.cell_blk (i := 2) HWX.out rfl
              have y3 := B.cell_blk (i := 3) HWX.out rfl
              have y4 := B.cell_blk (i := 4) HWX.out rfl
              have y5 := B.cell_blk (i := 5) HWX.out rfl
              have yl := B.blk_lt HWX.out
              have HGW := Lib.hid ((HWB.out.block gb (B.blk_lt HG.out)).trans HG.out)
              have g1 := B.cell_blk (i := 1) HGW.out rfl
              have gl0 := B.blk_lt HG.out
              have gl := B.blk_lt HGW.out
              have HX1 := Lib.hid (B.heap_new W (.cells #[.string ⟨n1.toArray⟩, .string sx, .string ⟨n2.toArray⟩, .bool true, .bool false, .int .i64 (v3 : Int)] 40))
              have hws := HWB.out.size
              go_wp2_with fail
              rw [← hW]
              clear hW x0 x1 x2 x3 x4 x5 xf2 xf3 xf4 xf5 xl
              go_region_law (first
                | (refine step_append rfl (.tmp 101) (.tmp 103) 24 rfl w.heap.size 40 i0 _ 6 64 Tryz.underlying24 HI0.out HI1.out HI2.out HI3.out rfl (by omega) (.slice none 0 0) 0 [] rfl (World.ownsRow_nil _ _ _ _) ⟨W.heap.size, 0, none⟩ 1 1 [.string ⟨n1.toArray⟩, .string sx, .string ⟨n2.toArray⟩, .bool true, .bool false, .int .i64 (v3 : Int)] rfl rfl (fun j u hj => by rw [Addr.add_lit, Nat.zero_add]; exact B.cell_blk HX1.out (by simpa using hj)) (by intro u hu; simp at hu; rcases hu with rfl | rfl | rfl | rfl | rfl | rfl <;> rfl) (by unfold maxLen; omega) (by omega) (by simp; omega) ?_; intro v' w9 hown' hgrow; obtain ⟨pa, pc, rfl⟩ := B.own_slice hown'; obtain ⟨p1, p2, p3⟩ := after_put (i := 1) (v' := .slice pa 1 pc) (B.below_draws (HWB.out.alloc hws _) 1) HG.out hgrow; have HP1 := Lib.hid p1; have HP2 := Lib.hid p2; have HOW := Lib.hid (B.own_set (i := 1) hown' (own_off hown' gl0) (.slice pa 1 pc)); have f9 := B.frozen_blk (i := 1) p3; have q9 := B.cell_blk (i := 1) p3 rfl; have l9 := B.blk_lt p3; clear hown' hgrow p1 p2 p3))
              all_goals
                have CE := ends_any _ (some ⟨kb, ko, none⟩) kc (T.map bare) (oi + 4) (row_grown HK.out HFK.out HP1.out) (by rw [HL.out]; omega)
                rw [HL.out, show ((oi + 4 : Nat) : Int) = (oi : Int) + 4 from by omega] at CE
                have HCE := Lib.hid CE
                clear CE
                go_wp2_with fail
                refine HCE.out.mono ?_
                rintro e w8 ⟨rfl, hw⟩
                subst hw
                go_wp2_with fail
                go_ret
                rw [HDD.out, HVV.out, ← HSX.out]
                exact ⟨HP1.out, rfl, fun _ => ⟨_, _, _, _, HP2.out, gro_ev HOW.out⟩⟩
            | false =>
              have c11 : ¬ clsAt (T.map bare) (oi + 3) = [100] := fun h => by rw [esd, h, beq_self_eq_true] at q11; cases q11
              clear es2 esd
              have m1 : dMay (T.map bare) kExc (oi + 2) = oi + 2 := by unfold dMay; rw [if_neg c7]
              have m2 : dMay (T.map bare) kDone (oi + 2) = oi + 2 := by unfold dMay; rw [if_neg c8]
              have HDD : Hid (dEv (T.map bare) = (oi + 2 + 1, true)) := Lib.hid (by rw [HKEY.out]; unfold dE2; rw [m1, m2]; unfold dDue; rw [if_neg c9, if_pos c10, if_neg c11])
              have x0 := B.cell_blk (i := 0) HX.out rfl
              have x1 := B.cell_blk (i := 1) HX.out rfl
              have x2 := B.cell_blk (i := 2) HX.out rfl
              have x3 := B.cell_blk (i := 3) HX.out rfl
              have x4 := B.cell_blk (i := 4) HX.out rfl
              have x5 := B.cell_blk (i := 5) HX.out rfl
              have xf2 := B.frozen_blk (i := 2) HX.out
              have xf3 := B.frozen_blk (i := 3) HX.out
              have xf4 := B.frozen_blk (i := 4) HX.out
              have xf5 := B.frozen_blk (i := 5) HX.out
              have xl := B.blk_lt HX.out
              have hxz : xb ≠ kb := by omega
              have hxt : xb ≠ tb := by omega
              have HGW := Lib.hid HB.out
              clear m1 m2 c7 c8 c9 c10 c11
              go_wp2_with fail
              go_ret
              rw [HDD.out]
              exact sg_bad (grown_of (HB.out.setCell (p := ⟨xb, 2, none⟩) hxw (.string ⟨n2.toArray⟩)))
          | false =>
            have c10 : ¬ clsAt (T.map bare) (oi + 2) = kDue := fun h => by rw [es2, h, beq_self_eq_true] at q10; cases q10
            clear es2
            have m1 : dMay (T.map bare) kExc (oi + 2) = oi + 2 := by unfold dMay; rw [if_neg c7]
            have m2 : dMay (T.map bare) kDone (oi + 2) = oi + 2 := by unfold dMay; rw [if_neg c8]
            have HDD : Hid (dEv (T.map bare) = dEnd (T.map bare) (oi + 2)) := Lib.hid (by rw [HKEY.out]; unfold dE2; rw [m1, m2]; unfold dDue; rw [if_neg c9, if_neg c10])
            have x0 := B.cell_blk (i := 0) HX.out rfl
            have x1 := B.cell_blk (i := 1) HX.out rfl
            have x2 := B.cell_blk (i := 2) HX.out rfl
            have x3 := B.cell_blk (i := 3) HX.out rfl
            have x4 := B.cell_blk (i := 4) HX.out rfl
            have x5 := B.cell_blk (i := 5) HX.out rfl
            have xf2 := B.frozen_blk (i := 2) HX.out
            have xf3 := B.frozen_blk (i := 3) HX.out
            have xf4 := B.frozen_blk (i := 4) HX.out
            have xf5 := B.frozen_blk (i := 5) HX.out
            have xl := B.blk_lt HX.out
            have hxz : xb ≠ kb := by omega
            have hxt : xb ≠ tb := by omega
            have HDV : Hid (dDueV (T.map bare) (oi + 2) = (-1)) := Lib.hid (by unfold dDueV; rw [if_neg c9, if_neg c10])
            have HVV : Hid (evV (T.map bare) = ⟨n1, dOptV (T.map bare) [105, 110] 2, n2, true, false, (-1)⟩) := Lib.hid (by
              rw [HEV.out (by rw [m1, m2]; exact (fun h => absurd h c10)), m1, m2, HTX.out, HTX2.out, HDV.out]
              rw [show (clsAt (T.map bare) (oi + 2) == kExc) = false from beq_eq_false_iff_ne.2 c7, show (clsAt (T.map bare) (oi + 2) == kDone) = false from beq_eq_false_iff_ne.2 c8]
              rfl)
            clear m1 m2 c7 c8 c9 c10
            obtain ⟨W, hW⟩ : ∃ W, W = (wz.setCell ⟨xb, 2, none⟩ (.string ⟨n2.toArray⟩)) := ⟨_, rfl⟩
            have HWX := Lib.hid (show W.heap[xb]? = some (.cells #[.string ⟨n1.toArray⟩, .string sx, .string ⟨n2.toArray⟩, .bool true, .bool false, .int .i64 (-1)] 40 (0, 0)) by rw [hW]; exact (B.blk_set (i := 2) (v := (.string ⟨n2.toArray⟩)) HX.out))
            have HWB := Lib.hid (show Below w.heap.size w W by rw [hW]; exact (HB.out.setCell (p := ⟨xb, 2, none⟩) hxw (.string ⟨n2.toArray⟩)))
            have y0 := B.cell_blk (i := 0) HWX.out rfl
            have y1 := B.cell_blk (i := 1) HWX.out rfl
            have y2 := B.cell_blk (i := 2) HWX.out rfl
            have y3 := B.cell_blk (i := 3) HWX.out rfl
            have y4 := B.cell_blk (i := 4) HWX.out rfl
            have y5 := B.cell_blk (i := 5) HWX.out rfl
            have yl := B.blk_lt HWX.out
            have HGW := Lib.hid ((HWB.out.block gb (B.blk_lt HG.out)).trans HG.out)
            have g1 := B.cell_blk (i := 1) HGW.out rfl
            have gl0 := B.blk_lt HG.out
            have gl := B.blk_lt HGW.out
            have HX1 := Lib.hid (B.heap_new W (.cells #[.string ⟨n1.toArray⟩, .string sx, .string ⟨n2.toArray⟩, .bool true, .bool false, .int .i64 (-1)] 40))
            have hws := HWB.out.size
            go_wp2_with fail
            rw [← hW]
            clear hW x0 x1 x2 x3 x4 x5 xf2 xf3 xf4 xf5 xl
            go_region_law (first
              | (refine step_append rfl (.tmp 101) (.tmp 103) 24 rfl w.heap.size 40 i0 _ 6 64 Tryz.underlying24 HI0.out HI1.out HI2.out HI3.out rfl (by omega) (.slice none 0 0) 0 [] rfl (World.ownsRow_nil _ _ _ _) ⟨W.heap.size, 0, none⟩ 1 1 [.string ⟨n1.toArray⟩, .string sx, .string ⟨n2.toArray⟩, .bool true, .bool false, .int .i64 (-1)] rfl rfl (fun j u hj => by rw [Addr.add_lit, Nat.zero_add]; exact B.cell_blk HX1.out (by simpa using hj)) (by intro u hu; simp at hu; rcases hu with rfl | rfl | rfl | rfl | rfl | rfl <;> rfl) (by unfold maxLen; omega) (by omega) (by simp; omega) ?_; intro v' w9 hown' hgrow; obtain ⟨pa, pc, rfl⟩ := B.own_slice hown'; obtain ⟨p1, p2, p3⟩ := after_put (i := 1) (v' := .slice pa 1 pc) (B.below_draws (HWB.out.alloc hws _) 1) HG.out hgrow; have HP1 := Lib.hid p1; have HP2 := Lib.hid p2; have HOW := Lib.hid (B.own_set (i := 1) hown' (own_off hown' gl0) (.slice pa 1 pc)); have f9 := B.frozen_blk (i := 1) p3; have q9 := B.cell_blk (i := 1) p3 rfl; have l9 := B.blk_lt p3; clear hown' hgrow p1 p2 p3))
            all_goals
              have CE := ends_any _ (some ⟨kb, ko, none⟩) kc (T.map bare) (oi + 2) (row_grown HK.out HFK.out HP1.out) (by rw [HL.out]; omega)
              rw [HL.out, show ((oi + 2 : Nat) : Int) = (oi : Int) + 2 from by omega] at CE
              have HCE := Lib.hid CE
              clear CE
              go_wp2_with fail
              refine HCE.out.mono ?_
              rintro e w8 ⟨rfl, hw⟩
              subst hw
              go_wp2_with fail
              go_ret
              rw [HDD.out, HVV.out, ← HSX.out]
              exact ⟨HP1.out, rfl, fun _ => ⟨_, _, _, _, HP2.out, gro_ev HOW.out⟩⟩
end Go.Proofs.YtjgcjnkeeiaafaaGreatDoor.P3.D
