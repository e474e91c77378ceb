/-
  slices.pdqsortCmpFunc at items, of any length.
-/
import Derived.Test.YtcipgjelbnmdiaaHqI
import Derived.Test.YtcipgjelbnmdiaaHqJ
namespace Go.Proofs.Ytcipgjelbnmdiaa.HP
open Go.RowKit Go.Shelf Go.Proofs.Ytcipgjelbnmdiaa.B
attribute [local go_sem] Oper.semAt_some

/-- Whether the one ahead is as great as the pivot. -/
def Q17 (s : Int) (L : List It) (x p : Nat) (t : Value) : Prop := ∃ z : Bool, t = .bool z ∧ (z = true → 0 < x ∧ ahB s L[x - 1]! L[p]! = false)
/-- What pdqsort does of parts of less than so many. -/
def PdqK (w0 : World) (g c hh n : Nat) (s : Int) (k : Nat) : Prop := ∀ (w : World) (L : List It) (_ : SR w0 g c L w) (_ : L.length = n) (_ : ∀ x ∈ L, OkI x) (a b : Nat) (lim : Int) (_ : 0 ≤ lim) (_ : lim ≤ 64) (_ : a ≤ b) (_ : b ≤ n) (_ : b - a < k) (_ : Pd s L a b),
    Calls Try.prog 69 #[.slice (some ⟨g, 0, none⟩) n c, .int .i64 (a : Int), .int .i64 (b : Int), .int .i64 lim, fv hh] w fun e w' => e = .returned (.tuple #[]) ∧ ∃ L', Sw a b L L' ∧ So s L' a b ∧ SR w0 g c L' w'
/-- The loop's words. -/
def PLp (w0 : World) (g c : Nat) (s : Int) (L : List It) (a b : Nat) (v1 v2 v3 v10 v11 : Value) (wr : World) : Prop :=
  ∃ (x y : Nat) (lim : Int) (Lr : List It), a ≤ x ∧ x ≤ y ∧ y ≤ b ∧ 0 ≤ lim ∧ lim ≤ 64 ∧ v1 = .int .i64 (x : Int) ∧ v2 = .int .i64 (y : Int) ∧ v3 = .int .i64 lim ∧ isB v10 ∧ isB v11 ∧ Hid (Sw a b L Lr) ∧ Hid (Td s Lr a b x y) ∧ Hid (Pd s Lr x y) ∧ Hid (SR w0 g c Lr wr)
set_option maxRecDepth 100000 in
set_option maxHeartbeats 16000000 in
theorem pdq_step (w0 : World) (g c hh n : Nat) (s : Int) (hc : w0.cell? ⟨hh, 0, none⟩ = some (.int .i64 s)) (hne : hh ≠ g) (h1 : 1 ≤ s) (h2 : s ≤ 1048576) (hl : n ≤ 100000) (k : Nat) (IHH : Hid (PdqK w0 g c hh n s k)) (w : World) (L : List It) (h : SR w0 g c L w) (hn : L.length = n) (hok : ∀ x ∈ L, OkI x) (a b : Nat) (lim : Int) (hl0 : 0 ≤ lim) (hl64 : lim ≤ 64) (hab : a ≤ b) (hbn : b ≤ n) (hk : b - a < k + 1) (hpd : Pd s L a b) :
    Calls Try.prog 69 #[.slice (some ⟨g, 0, none⟩) n c, .int .i64 (a : Int), .int .i64 (b : Int), .int .i64 lim, fv hh] w fun e w' => e = .returned (.tuple #[]) ∧ ∃ L', Sw a b L L' ∧ So s L' a b ∧ SR w0 g c L' w' := by
  have HOK0 := Lib.hid hok
  have HC := Lib.hid hc
  have HS := Lib.hid (And.intro h1 h2)
  have H0 := Lib.hid h
  have HN0 := Lib.hid hn
  clear hok hc h1 h2 h hn
  have HOKL := HOK0
  have HLN := HN0
  have HPD0 := Lib.hid hpd
  clear hpd
  go_enter Try.func69, Try.ntmps69
  go_wp2_with fail
  go_loopw [1, 2, 3, 10, 11] (fun v1 v2 v3 v10 v11 wr => PLp w0 g c s L a b v1 v2 v3 v10 v11 wr) (fun v1 v2 _ _ _ _ => (intOf v2).toNat - (intOf v1).toNat)
  case atStart => exact ⟨a, b, lim, L, Nat.le_refl _, hab, Nat.le_refl _, hl0, hl64, rfl, rfl, rfl, isB_of _, isB_of _, Lib.hid (.refl _), Lib.hid Td.start, HPD0, H0⟩
  case round =>
    clear H0
    obtain ⟨x, y, lim, Lr, hax, hxy, hyb, hl0, hl64, rfl, rfl, rfl, hbal, hpar, HSW, HTD, HPD, HSR⟩ := hrel
    obtain ⟨q, rfl⟩ := hbal.get
    obtain ⟨r, rfl⟩ := hpar.get
    clear hbal hpar
    have HLL : Hid (Lr.length = n) := Lib.hid (HSW.out.len.trans HLN.out)
    have HOK : Hid (∀ x ∈ Lr, OkI x) := Lib.hid (fun x hx => HOKL.out x (HSW.out.perm.mem_iff.1 hx))
    obtain ⟨len, hlen⟩ : ∃ len, len = y - x := ⟨_, rfl⟩
    have hlen2 : (y : Int) - (x : Int) = (len : Int) := by omega
    have hlenn : len ≤ 100000 := by omega
    have hyn : y ≤ n := by omega
    by_cases h12 : len ≤ 12
    · have h12z : (len : Int) ≤ 12 := by omega
      have CI := Lib.hid (ins_any w0 _ g c hh s Lr HSR.out HOK.out HC.out hne HS.out.1 HS.out.2 x y hxy (by rw [HLL.out]; exact hyn) (by rw [HLL.out]; exact hl))
      rw [HLL.out] at CI
      go_wp2_with fail
      refine CI.out.mono ?_
      rintro e w4 ⟨rfl, L', k1, k2, k3⟩
      have HRES := Lib.hid (And.intro (HSW.out.trans (k1.mono hax hyb (by rw [HLL.out]; exact hbn))) (And.intro (HTD.out L' k1 k2) k3))
      clear k1 k2 k3 CI
      go_wp2_with fail
      refine bodyPost_ret (results_none rfl _ _ _) rfl ?_

      exact ⟨rfl, L', HRES.out.1, HRES.out.2.1, HRES.out.2.2⟩
    · have h12z : ¬ (len : Int) ≤ 12 := by omega
      have hx12 : x + 12 < y := by omega
      by_cases hlz : lim = 0
      · subst hlz
        have CI := Lib.hid (hs_any w0 _ g c hh n s Lr HSR.out HLL.out HOK.out HC.out hne HS.out.1 HS.out.2 hl x y (by omega) hyn)

        go_wp2_with fail
        refine CI.out.mono ?_
        rintro e w4 ⟨rfl, L', k1, k2, k3⟩
        have HRES := Lib.hid (And.intro (HSW.out.trans (k1.mono hax hyb (by rw [HLL.out]; exact hbn))) (And.intro (HTD.out L' k1 k2) k3))
        clear k1 k2 k3 CI
        go_wp2_with fail
        refine bodyPost_ret (results_none rfl _ _ _) rfl ?_

        exact ⟨rfl, L', HRES.out.1, HRES.out.2.1, HRES.out.2.2⟩
      · have hlb : (lim == 0) = false := by rw [beq_eq_false_iff_ne]; exact hlz
        have hl1 : 1 ≤ lim := by omega
        clear hlen
        go_upto_if 39 with fail
        go_cut [3] from 39 to 46 (fun v wx => ∃ (lim2 : Int) (L2 : List It), v = .int .i64 lim2 ∧ 0 ≤ lim2 ∧ lim2 ≤ 64 ∧ Hid (Sw x y Lr L2) ∧ Hid (SR w0 g c L2 wx))
        case first =>
          cases q with
          | true =>
            go_wp2_with fail
            go_meet
            exact ⟨lim, Lr, rfl, hl0, hl64, Lib.hid (.refl _), HSR⟩
          | false =>
            have CB := Lib.hid (bp_any w0 _ g c hh n s Lr HSR.out HLL.out HOK.out HC.out hne HS.out.1 HS.out.2 hl x y hx12 hyn)

            have hlw : lim - 1 ≤ 64 := by omega
            have hlw0 : 0 ≤ lim - 1 := by omega
            go_wp2_with fail
            refine CB.out.mono ?_
            rintro e w4 ⟨rfl, L', k1, k3⟩
            have K1 := Lib.hid k1
            have K3 := Lib.hid k3
            clear k1 k3 CB
            go_wp2_with fail
            go_meet
            exact ⟨lim - 1, L', rfl, hlw0, hlw, K1, K3⟩
        case rest =>
        obtain ⟨lim2, L2, rfl, hl0, hl64, HS2, HSR2⟩ := hcut
        clear HSR hlz hlb hl1
        have HSR := HSR2
        clear HSR2
        obtain ⟨w5, hwn⟩ : ∃ w5, w5 = wc := ⟨_, rfl⟩
        rw [← hwn] at HSR ⊢
        clear hwn

        have HTD2 := Lib.hid (HTD.out.sw HS2.out)
        have HPD2 := Lib.hid (HPD.out.sw HS2.out)
        have HSW2 : Hid (Sw a b L L2) := Lib.hid (HSW.out.trans (HS2.out.mono hax hyb (by rw [HLL.out]; exact hbn)))
        clear HLL HOK
        have HLL : Hid (L2.length = n) := Lib.hid (HSW2.out.len.trans HLN.out)
        have HOK : Hid (∀ x ∈ L2, OkI x) := Lib.hid (fun x hx => HOKL.out x (HSW2.out.perm.mem_iff.1 hx))

        clear HTD HPD HSW HS2
        have CP := Lib.hid (cp_any w0 w5 g c hh n s L2 HSR.out HLL.out HOK.out HC.out hne HS.out.1 HS.out.2 hl x y hx12 hyn)

        clear HSR
        go_wp2_with fail
        refine CP.out.mono ?_
        rintro e w6 ⟨p, t, rfl, hxp, hpy, hr6⟩
        have HSR := Lib.hid hr6
        clear hr6 CP
        go_upto_if 56 with fail
        go_cut [13, 14] from 56 to 67 (fun v u wx => ∃ (pz : Nat) (t2 : Int) (L3 : List It), v = .int .i64 (pz : Int) ∧ u = .int .i64 t2 ∧ x ≤ pz ∧ pz < y ∧ Hid (Sw x y L2 L3) ∧ Hid (SR w0 g c L3 wx))
        case first =>
          by_cases ht2 : t = 2
          · subst ht2
            have CR := Lib.hid (rr_any w0 w6 g c hh n s L2 HSR.out HLL.out HOK.out HC.out hne HS.out.1 HS.out.2 hl x y (by omega) hyn)

            obtain ⟨y1, hy1⟩ : ∃ y1, y = y1 + 1 := ⟨y - 1, by omega⟩
            have hy12 : (y : Int) - 1 = (y1 : Int) := by omega
            obtain ⟨d, hd1⟩ : ∃ d, d = p - x := ⟨_, rfl⟩
            have hd12 : (p : Int) - (x : Int) = (d : Int) := by omega
            obtain ⟨p3, hp3⟩ : ∃ p3, p3 = y1 - d := ⟨_, rfl⟩
            have hp32 : (y1 : Int) - (d : Int) = (p3 : Int) := by omega
            have hp4 : x ≤ p3 := by omega
            have hp5 : p3 < y := by omega
            clear hy1 hd1 hp3
            go_wp2_with fail
            refine CR.out.mono ?_
            rintro e w7 ⟨rfl, L', k1, k3⟩
            have K1 := Lib.hid k1
            have K3 := Lib.hid k3
            clear k1 k3 CR
            go_wp2_with fail
            go_meet
            exact ⟨p3, 1, L', rfl, rfl, hp4, hp5, K1, K3⟩
          · have htb : (t == 2) = false := by rw [beq_eq_false_iff_ne]; exact ht2
            go_wp2_with fail
            go_meet
            exact ⟨p, t, L2, rfl, rfl, hxp, hpy, Lib.hid (.refl _), HSR⟩
        case rest =>
        clear hxp hpy HSR
        obtain ⟨pz, t2, L3, rfl, rfl, hxp, hpy, HS3, HSR⟩ := hcut
        obtain ⟨w7, hwn⟩ : ∃ w7, w7 = wc := ⟨_, rfl⟩
        rw [← hwn] at HSR ⊢
        clear hwn

        have HTD3 := Lib.hid (HTD2.out.sw HS3.out)
        have HPD3 := Lib.hid (HPD2.out.sw HS3.out)
        have HSW3 : Hid (Sw a b L L3) := Lib.hid (HSW2.out.trans (HS3.out.mono hax hyb (by rw [HLL.out]; exact hbn)))
        clear HLL HOK
        have HLL : Hid (L3.length = n) := Lib.hid (HSW3.out.len.trans HLN.out)
        have HOK : Hid (∀ x ∈ L3, OkI x) := Lib.hid (fun x hx => HOKL.out x (HSW3.out.perm.mem_iff.1 hx))

        clear HTD2 HPD2 HSW2 HS3
        obtain ⟨z1, hz1⟩ : ∃ z1, (t2 == 1) = z1 := ⟨_, rfl⟩
        go_upto_region 15 with fail
        go_cut [75] from 68 to 75 (fun v wx => isB v ∧ Hid (SR w0 g c L3 wx))
        case first =>
          cases q <;> cases r <;> cases z1 <;> (go_wp2_with fail; go_meet; exact ⟨isB_of _, HSR⟩)
        case rest =>
        clear HSR hz1
        obtain ⟨hz, HSR⟩ := hcut
        obtain ⟨z, rfl⟩ := hz.get
        clear hz
        obtain ⟨w77, hwn⟩ : ∃ w77, w77 = wc := ⟨_, rfl⟩
        rw [← hwn] at HSR ⊢
        clear hwn

        go_upto_if 75 with fail
        go_cut [14] from 75 to 80 (fun v wx => v = .int .i64 t2 ∧ ∃ L4 : List It, Hid (Sw x y L3 L4) ∧ Hid (SR w0 g c L4 wx))
        case first =>
          cases z with
          | false =>
            go_wp2_with fail
            go_meet
            exact ⟨rfl, L3, Lib.hid (.refl _), HSR⟩
          | true =>
            have CQ := Lib.hid (pi_any w0 _ g c hh n s L3 HSR.out HLL.out HOK.out HC.out hne HS.out.1 HS.out.2 hl x y (by omega) hyn HPD3.out)

            go_wp2_with fail
            refine CQ.out.mono ?_
            rintro e w8 ⟨tt, L', rfl, k1, k2, k3⟩
            cases tt with
            | false =>
              have K1 := Lib.hid k1
              have K3 := Lib.hid k3
              clear k1 k2 k3 CQ
              go_wp2_with fail
              go_meet
              exact ⟨rfl, L', K1, K3⟩
            | true =>
              have HRES := Lib.hid (And.intro (HSW3.out.trans (k1.mono hax hyb (by rw [HLL.out]; exact hbn))) (And.intro (HTD3.out L' k1 (k2 rfl)) k3))
              clear k1 k2 k3 CQ
              go_wp2_with fail
              refine bodyPost_ret (results_none rfl _ _ _) rfl ?_

              exact ⟨rfl, L', HRES.out.1, HRES.out.2.1, HRES.out.2.2⟩
        case rest =>
        clear HSR
        obtain ⟨rfl, L4, HS4, HSR⟩ := hcut
        obtain ⟨w8, hwn⟩ : ∃ w8, w8 = wc := ⟨_, rfl⟩
        rw [← hwn] at HSR ⊢
        clear hwn

        have HTD4 := Lib.hid (HTD3.out.sw HS4.out)
        have HPD4 := Lib.hid (HPD3.out.sw HS4.out)
        have HSW4 : Hid (Sw a b L L4) := Lib.hid (HSW3.out.trans (HS4.out.mono hax hyb (by rw [HLL.out]; exact hbn)))
        clear HLL HOK
        have HLL : Hid (L4.length = n) := Lib.hid (HSW4.out.len.trans HLN.out)
        have HOK : Hid (∀ x ∈ L4, OkI x) := Lib.hid (fun x hx => HOKL.out x (HSW4.out.perm.mem_iff.1 hx))

        clear HTD3 HPD3 HSW3 HS4
        have hpn : pz < n := by omega
        go_upto_region 17 with fail
        go_cut [97] from 81 to 97 (fun t wx => Q17 s L4 x pz t ∧ Hid (SR w0 g c L4 wx))
        case first =>
          by_cases hx0 : 0 < x
          · have hd : decide ((x : Int) > 0) = true := decide_eq_true (by omega)
            obtain ⟨xp, hxp1⟩ : ∃ xp, x = xp + 1 := ⟨x - 1, by omega⟩
            have hxp2 : (x : Int) - 1 = (xp : Int) := by omega
            have hxpn : xp < n := by omega
            have HXP := Lib.hid hxp1
            clear hxp1
            have hdr := HSR.out.drew
            have hil : xp < L4.length := by rw [HLL.out]; omega
            have hjl : pz < L4.length := by rw [HLL.out]; omega
            have EN := cmp_class (w0 := w0) (g := g) (c := c) (L := L4) HC.out hne HS.out.1 HS.out.2 L4[xp]! L4[pz]! (HOK.out _ (mem_at hil)) (HOK.out _ (mem_at hjl))
            have f0 : ∀ x : WIn (SR w0 g c L4), x.w.cell? ⟨g, xp * 3, none⟩ = some (.int .i64 L4[xp]!.id) := fun x => (x.h.at_ hil).1
            have f1 : ∀ x : WIn (SR w0 g c L4), x.w.cell? ⟨g, xp * 3 + 1, none⟩ = some (.int .i64 L4[xp]!.base) := fun x => (x.h.at_ hil).2.1
            have f2 : ∀ x : WIn (SR w0 g c L4), x.w.cell? ⟨g, xp * 3 + 2, none⟩ = some (.int .i64 L4[xp]!.since) := fun x => (x.h.at_ hil).2.2
            have p0 : ∀ x : WIn (SR w0 g c L4), x.w.cell? ⟨g, pz * 3, none⟩ = some (.int .i64 L4[pz]!.id) := fun x => (x.h.at_ hjl).1
            have p1 : ∀ x : WIn (SR w0 g c L4), x.w.cell? ⟨g, pz * 3 + 1, none⟩ = some (.int .i64 L4[pz]!.base) := fun x => (x.h.at_ hjl).2.1
            have p2 : ∀ x : WIn (SR w0 g c L4), x.w.cell? ⟨g, pz * 3 + 2, none⟩ = some (.int .i64 L4[pz]!.since) := fun x => (x.h.at_ hjl).2.2
            haveI hNE : Nonempty (WIn (SR w0 g c L4)) := ⟨⟨_, hdr⟩⟩
            have HAH := Lib.hid (cmpL_ah s L4[xp]! L4[pz]!)
            obtain ⟨x, hx⟩ : ∃ x, x = L4[xp]! := ⟨_, rfl⟩
            obtain ⟨y, hy⟩ : ∃ y, y = L4[pz]! := ⟨_, rfl⟩
            have HX := Lib.hid hx
            have HY := Lib.hid hy
            rw [← hx, ← hy] at EN HAH
            rw [← hx] at f0 f1 f2
            rw [← hy] at p0 p1 p2
            clear hx hy hil hjl
            obtain ⟨xi, xb, xs⟩ := x
            obtain ⟨yi, yb, ys⟩ := y
            simp only at f0 f1 f2 p0 p1 p2
            generalize cmpL s ⟨xi, xb, xs⟩ ⟨yi, yb, ys⟩ = cc at *
            have hj0 : (0 : Int) ≤ (xp : Int) := Int.natCast_nonneg _
            have hj1 : (xp : Int) < (n : Int) := by omega
            have hp0 : (0 : Int) ≤ (pz : Int) := Int.natCast_nonneg _
            have hp1 : (pz : Int) < (n : Int) := by omega
            refine wp_region_class (SR w0 g c L4) (by kernel_rfl) (by kernel_rfl) hdr ?_
            repeat (go_big_quiet_step (exact EN _))
            refine wpQuiet_nil ?_
            rintro _ ⟨⟨wq, hwq⟩, rfl⟩
            go_wp2_with fail
            go_meet
            exact ⟨⟨!ahB s L4[xp]! L4[pz]!, by rw [HAH.out, HX.out, HY.out], fun hz => ⟨hx0, by rw [show x - 1 = xp by have := HXP.out; omega]; simpa using hz⟩⟩, Lib.hid hwq⟩
          · have hd : decide ((x : Int) > 0) = false := decide_eq_false (by omega)
            have hdr := HSR.out.drew
            haveI hNE : Nonempty (WIn (SR w0 g c L4)) := ⟨⟨_, hdr⟩⟩
            refine wp_region_class (SR w0 g c L4) (by kernel_rfl) (by kernel_rfl) hdr ?_
            repeat (go_big_quiet_step (fail))
            refine wpQuiet_nil ?_
            rintro _ ⟨⟨wq, hwq⟩, rfl⟩
            go_wp2_with fail
            go_meet
            exact ⟨⟨false, rfl, fun hz => by cases hz⟩, Lib.hid hwq⟩
        case rest =>
        clear HSR
        obtain ⟨⟨z2, rfl, hz2⟩, HSR⟩ := hcut
        obtain ⟨w9, hwn⟩ : ∃ w9, w9 = wc := ⟨_, rfl⟩
        rw [← hwn] at HSR ⊢
        clear hwn
        cases z2 with
        | false =>
          clear hz2
          have CA := Lib.hid (pa_any w0 w9 g c hh n s L4 HSR.out HLL.out HOK.out HC.out hne HS.out.1 HS.out.2 hl x y pz hxp hpy hyn)
          clear HSR
          go_wp2_with fail
          refine CA.out.mono ?_
          rintro e w10 ⟨m, t5, L5, rfl, hxm, hmy, hs5, hq1, hq2, hr5⟩
          have HSR := Lib.hid hr5
          have HS5 := Lib.hid hs5
          have HQ := Lib.hid (And.intro hq1 hq2)
          clear hr5 hs5 hq1 hq2 CA
          have HLL5 : Hid (L5.length = n) := Lib.hid (HS5.out.len.trans HLL.out)
          have HOK5 : Hid (∀ x ∈ L5, OkI x) := Lib.hid (fun x hx => HOK.out x (HS5.out.perm.mem_iff.1 hx))
          obtain ⟨ll, hll⟩ : ∃ ll, ll = m - x := ⟨_, rfl⟩
          obtain ⟨rl, hrl⟩ : ∃ rl, rl = y - m := ⟨_, rfl⟩
          have hll2 : (m : Int) - (x : Int) = (ll : Int) := by omega
          have hrl2 : (y : Int) - (m : Int) = (rl : Int) := by omega
          have hq8 : (len : Int).tdiv 8 = ((len / 8 : Nat) : Int) := by rw [Int.tdiv_eq_ediv_of_nonneg (by omega)]; omega
          obtain ⟨l8, hl8⟩ : ∃ l8, l8 = len / 8 := ⟨_, rfl⟩
          rw [← hl8] at hq8
          have hl9 : l8 ≤ 100000 := by omega
          obtain ⟨m1, hm1⟩ : ∃ m1, m1 = m + 1 := ⟨_, rfl⟩
          have hm12 : (m : Int) + 1 = (m1 : Int) := by omega
          have HM1 := Lib.hid hm1
          have hm1y : m1 ≤ y := by omega
          have hxm1 : x < m1 := by omega
          clear hl8 hm1
          by_cases hlr : ll < rl
          · have hlr2 : (ll : Int) < (rl : Int) := by omega
            obtain ⟨bb, hbb1⟩ : ∃ bb, decide ((l8 : Int) ≤ (ll : Int)) = bb := ⟨_, rfl⟩
            have hbb2 : decide (l8 ≤ ll) = bb := by rw [← hbb1]; exact decide_eq_decide.2 (by omega)
            have CI := Lib.hid (IHH.out w10 L5 HSR.out HLL5.out HOK5.out x m lim2 hl0 hl64 hxm (by omega) (by omega) ((HPD4.out.sw HS5.out).left (by omega)))
            clear hll hrl
            go_wp2_with fail
            refine CI.out.mono ?_
            rintro e w11 ⟨rfl, L6, k1, k2, k3⟩
            have HN := Lib.hid (left_next HTD4.out HS5.out hxm hmy (by rw [HLL.out]; exact hyn) HQ.out.1 HQ.out.2 k1 k2)
            have HSW6 : Hid (Sw a b L L6) := Lib.hid (HSW4.out.trans ((HS5.out.trans (k1.mono (Nat.le_refl _) (by omega) (by rw [HLL5.out]; exact hyn))).mono hax hyb (by rw [HLL.out]; exact hbn)))
            have HSR6 := Lib.hid k3
            have HTD6 : Hid (Td s L6 a b m1 y) := Lib.hid (by rw [HM1.out]; exact HN.out.1)
            have HPD6 : Hid (Pd s L6 m1 y) := Lib.hid (by rw [HM1.out]; exact HN.out.2)
            have hax1 : a ≤ m1 := by omega
            have hme : y - m1 < y - x := by omega
            clear k1 k2 k3 CI HN
            go_wp2_with fail
            go_roundw
            case rel => exact ⟨m1, y, lim2, L6, hax1, hm1y, hyb, hl0, hl64, rfl, rfl, rfl, isB_of _, isB_of _, HSW6, HTD6, HPD6, HSR6⟩
            case measure => simp [intOf]; exact hme
          · have hlr2 : ¬ (ll : Int) < (rl : Int) := by omega
            obtain ⟨bb, hbb1⟩ : ∃ bb, decide ((l8 : Int) ≤ (rl : Int)) = bb := ⟨_, rfl⟩
            have hbb2 : decide (l8 ≤ rl) = bb := by rw [← hbb1]; exact decide_eq_decide.2 (by omega)
            have CI := Lib.hid (IHH.out w10 L5 HSR.out HLL5.out HOK5.out m1 y lim2 hl0 hl64 hm1y hyn (by omega) (by rw [HM1.out]; exact Pd.right HQ.out.2))
            clear hll hrl
            go_wp2_with fail
            refine CI.out.mono ?_
            rintro e w11 ⟨rfl, L6, k1, k2, k3⟩
            have HN := Lib.hid (right_next HTD4.out HPD4.out HS5.out hxm hmy (by rw [HLL.out]; exact hyn) HQ.out.1 HQ.out.2 (by rw [← HM1.out]; exact k1) (by rw [← HM1.out]; exact k2))
            have HSW6 : Hid (Sw a b L L6) := Lib.hid (HSW4.out.trans ((HS5.out.trans (k1.mono (by omega) (Nat.le_refl _) (by rw [HLL5.out]; exact hyn))).mono hax hyb (by rw [HLL.out]; exact hbn)))
            have HSR6 := Lib.hid k3
            have HTD6 : Hid (Td s L6 a b x m) := Lib.hid HN.out.1
            have HPD6 : Hid (Pd s L6 x m) := Lib.hid HN.out.2
            have hmb : m ≤ b := by omega
            have hme : m - x < y - x := by omega
            clear k1 k2 k3 CI HN
            go_wp2_with fail
            go_roundw
            case rel => exact ⟨x, m, lim2, L6, hax, hxm, hmb, hl0, hl64, rfl, rfl, rfl, isB_of _, isB_of _, HSW6, HTD6, HPD6, HSR6⟩
            case measure => simp [intOf]; exact hme
        | true =>
          have HZ2 := Lib.hid (hz2 rfl)
          clear hz2
          have CE := Lib.hid (pe_any w0 w9 g c hh n s L4 HSR.out HLL.out HOK.out HC.out hne HS.out.1 HS.out.2 hl x y pz hxp hpy hyn)
          clear HSR
          go_wp2_with fail
          refine CE.out.mono ?_
          rintro e w10 ⟨m, L5, rfl, hxm, hmy, hs5, hv5, hq1, hq2, hr5⟩
          have HN := Lib.hid (eq_next HTD4.out HPD4.out HZ2.out.1 HZ2.out.2 hs5 hv5 hxm hmy (by rw [HLL.out]; exact hyn) hq1 hq2)
          have HSW6 : Hid (Sw a b L L5) := Lib.hid (HSW4.out.trans (hs5.mono hax hyb (by rw [HLL.out]; exact hbn)))
          have HSR6 := Lib.hid hr5
          have HTD6 : Hid (Td s L5 a b m y) := Lib.hid HN.out.1
          have HPD6 : Hid (Pd s L5 m y) := Lib.hid HN.out.2
          have ham : a ≤ m := by omega
          have hme : y - m < y - x := by omega
          clear hr5 hs5 hv5 hq1 hq2 CE HN
          go_wp2_with fail
          go_roundw
          case rel => exact ⟨m, y, lim2, L5, ham, hmy, hyb, hl0, hl64, rfl, rfl, rfl, isB_of _, isB_of _, HSW6, HTD6, HPD6, HSR6⟩
          case measure => simp [intOf]; exact hme


theorem pdq_all (w0 : World) (g c hh n : Nat) (s : Int) (hc : w0.cell? ⟨hh, 0, none⟩ = some (.int .i64 s)) (hne : hh ≠ g) (h1 : 1 ≤ s) (h2 : s ≤ 1048576) (hl : n ≤ 100000) (k : Nat) : PdqK w0 g c hh n s k := by
  induction k with
  | zero => intro w L _ _ _ a b lim _ _ _ _ hk _; omega
  | succ k ih => intro w L h hn hok a b lim hl0 hl64 hab hbn hk hpd; exact pdq_step w0 g c hh n s hc hne h1 h2 hl k (Lib.hid ih) w L h hn hok a b lim hl0 hl64 hab hbn hk hpd
end Go.Proofs.Ytcipgjelbnmdiaa.HP
