/-
  slices.heapSortCmpFunc at items.
-/
import Derived.Test.YtcipgjelbnmdiaaHqA
import Derived.Deep.CutRange
import Derived.Deep.CutBlock
namespace Go.Proofs.Ytcipgjelbnmdiaa.HP
open Go.RowKit Go.Shelf Go.Proofs.Ytcipgjelbnmdiaa.B
attribute [local go_sem] Oper.semAt_some

theorem Gd.top {s : Int} {L : List It} {f hi : Nat} (h : Gd s L f hi 0) : ∀ (m j : Nat), j ≤ m → j < hi → le s L[f + j]! L[f]!
  | 0, j, h1, h2 => by have e : j = 0 := (by omega); subst e; exact le_refl _ _
  | m + 1, j, h1, h2 => by
    by_cases e : j = 0
    · subst e; exact le_refl _ _
    · exact le_trans (h j (by omega) h2 (Nat.zero_le _)) (Gd.top h m ((j - 1) / 2) (by omega) (by omega))
/-- In order from m on, and all behind what stands ahead. -/
structure Hs (s : Int) (L : List It) (a m hi : Nat) : Prop where
  g : Gd s L a m 0
  o : So s L (a + m) (a + hi)
  b : ∀ p q, p < m → m ≤ q → q < hi → le s L[a + p]! L[a + q]!
theorem Hs.step {s : Int} {L L2 : List It} {a m hi : Nat} (h : Hs s L a (m + 1) hi) (hm : m < hi) (hl : a + hi ≤ L.length) (hs : Sw a (a + m) (sw L a (a + m)) L2) (hg : Gd s L2 a m 0) : Hs s L2 a m hi := by
  have hlen : (sw L a (a + m)).length = L.length := sw_len _ _ _
  have top := fun j (hj : j < m + 1) => Gd.top h.g j j (Nat.le_refl _) hj
  have out : ∀ q, m ≤ q → q < hi → L2[a + q]! = (if q = m then L[a]! else L[a + q]!) := fun q h1 h2 => by
    rw [hs.out (a + q) (by omega), sw_at (by omega) (by omega)]
    by_cases e : q = m
    · rw [if_pos (by omega), if_pos e]
    · rw [if_neg (by omega), if_neg (by omega), if_neg e]
  have inn : ∀ p, p < m → le s L2[a + p]! L[a]! ∧ ∀ q, m < q → q < hi → le s L2[a + p]! L[a + q]! := fun p hp => by
    obtain ⟨k, k1, k2, k3⟩ := hs.inn (a + p) (by omega) (by omega)
    rw [k3, sw_at (by omega) (by omega), if_neg (by omega)]
    by_cases e : k = a
    · rw [if_pos e]
      exact ⟨top m (by omega), fun q h1 h2 => h.b m q (by omega) (by omega) h2⟩
    · rw [if_neg e]
      have e2 : a + (k - a) = k := by omega
      have h3 := top (k - a) (by omega)
      rw [e2] at h3
      refine ⟨h3, fun q h1 h2 => ?_⟩
      have := h.b (k - a) q (by omega) (by omega) h2
      rw [e2] at this
      exact this
  refine ⟨hg, fun p q h1 h2 h3 => ?_, fun p q h1 h2 h3 => ?_⟩
  · obtain ⟨p', rfl⟩ : ∃ p', p = a + p' := ⟨p - a, by omega⟩
    obtain ⟨q', rfl⟩ : ∃ q', q = a + q' := ⟨q - a, by omega⟩
    rw [out p' (by omega) (by omega), out q' (by omega) (by omega), if_neg (show ¬ q' = m by omega)]
    by_cases e : p' = m
    · rw [if_pos e]
      have := h.b 0 q' (by omega) (by omega) (by omega)
      rw [Nat.add_zero] at this
      exact this
    · rw [if_neg e]
      exact h.o (a + p') (a + q') (by omega) (by omega) (by omega)
  · rw [out q h2 h3]
    by_cases e : q = m
    · rw [if_pos e]; exact (inn p h1).1
    · rw [if_neg e]; exact (inn p h1).2 q (by omega) h3
theorem Gd.cut {s : Int} {L : List It} {a m : Nat} (h : Gd s L a (m + 1) 0) (hl : a + m < L.length) : Gd s (sw L a (a + m)) a m (0 + 1) := fun j h1 h2 h3 => by
  rw [sw_at (by omega) hl, sw_at (by omega) hl, if_neg (by omega), if_neg (by omega), if_neg (by omega), if_neg (by omega)]
  exact h j h1 (by omega) (Nat.zero_le _)
set_option maxRecDepth 100000 in
set_option maxHeartbeats 8000000 in
theorem hs_any (w0 w : World) (g c hh n : Nat) (s : Int) (L : List It) (h : SR w0 g c L w) (hn : L.length = n) (hok : ∀ x ∈ L, OkI x) (hc : w0.cell? ⟨hh, 0, none⟩ = some (.int .i64 s)) (hne : hh ≠ g) (h1 : 1 ≤ s) (h2 : s ≤ 1048576) (hl : n ≤ 100000) (a b : Nat) (hab : a < b) (hbn : b ≤ n) :
    Calls Try.prog 75 #[.slice (some ⟨g, 0, none⟩) n c, .int .i64 (a : Int), .int .i64 (b : Int), fv hh] w fun e w' => e = .returned (.tuple #[]) ∧ ∃ L', Sw a b L L' ∧ So s L' a b ∧ SR w0 g c L' w' := by
  have HOK0 := Lib.hid hok
  have HC := Lib.hid hc
  have HS := Lib.hid (And.intro h1 h2)
  have H0 := Lib.hid h
  have HN0 := Lib.hid hn
  clear hok hc h1 h2 h hn
  have HOKL := HOK0
  have HLN := HN0
  obtain ⟨hi, hhi⟩ : ∃ hi, hi = b - a := ⟨_, rfl⟩
  have hhi2 : (b : Int) - (a : Int) = (hi : Int) := by omega
  have HHI := Lib.hid hhi
  have hahi : a + hi = b := by omega
  have hhi1 : 1 ≤ hi := by omega
  have hq : ((hi : Int) - 1).tdiv 2 = (((hi - 1) / 2 : Nat) : Int) := by rw [Int.tdiv_eq_ediv_of_nonneg (by omega)]; omega
  have hq2 : (hi - 1) / 2 < hi := by omega
  obtain ⟨q, hqq⟩ : ∃ q, q = (hi - 1) / 2 := ⟨_, rfl⟩
  rw [← hqq] at hq hq2
  have HQ := Lib.hid hqq
  clear hqq hhi
  go_enter Try.func75, Try.ntmps75
  go_wp2_with fail
  go_loopw [11] (fun v wr => ∃ (k : Nat) (Lr : List It) (z : Int), k ≤ q + 1 ∧ z = (k : Int) - 1 ∧ v = .int .i64 z ∧ Hid (Sw a b L Lr) ∧ Hid (Gd s Lr a hi k) ∧ Hid (SR w0 g c Lr wr)) (fun v _ => (intOf v + 1).toNat)
  case atStart => exact ⟨q + 1, L, (q : Int), Nat.le_refl _, by omega, rfl, Lib.hid (.refl _), Lib.hid (fun j h1 h2 h3 => by have := HQ.out; omega), H0⟩
  case round =>
    clear H0
    obtain ⟨k, Lr, z, hk, hz, rfl, HSW, HG, HSR⟩ := hrel
    have HLL : Hid (Lr.length = n) := Lib.hid (HSW.out.len.trans HLN.out)
    have HOK : Hid (∀ x ∈ Lr, OkI x) := Lib.hid (fun x hx => HOKL.out x (HSW.out.perm.mem_iff.1 hx))
    cases k with
    | succ k =>
      obtain rfl : z = (k : Int) := by omega
      clear hz
      have hk0 : (k : Int) ≥ 0 := by omega
      have CS := Lib.hid (sd_any w0 _ g c hh n s _ HSR.out HLL.out HOK.out HC.out hne HS.out.1 HS.out.2 hl k hi a (by omega) (by omega) HG.out)
      go_wp2_with fail
      refine CS.out.mono ?_
      rintro e w8 ⟨rfl, L2, k1, k2, k3⟩
      have HSW2 : Hid (Sw a b L L2) := Lib.hid (HSW.out.trans (by rw [← hahi]; exact k1))
      have HG2 := Lib.hid k2
      have HSR2 := Lib.hid k3
      clear k1 k2 k3 CS
      go_wp2_with fail
      go_roundw
      case rel => exact ⟨k, L2, (k : Int) - 1, by omega, rfl, rfl, HSW2, HG2, HSR2⟩
      case measure => simp [intOf]
    | zero =>
      obtain rfl : z = -1 := by omega
      clear hz
      go_wp2_with fail
      go_loopw [12] (fun v wr => ∃ (m : Nat) (Lr : List It) (z : Int), m ≤ hi ∧ z = (m : Int) - 1 ∧ v = .int .i64 z ∧ Hid (Sw a b L Lr) ∧ Hid (Hs s Lr a m hi) ∧ Hid (SR w0 g c Lr wr)) (fun v _ => (intOf v + 1).toNat)
      case atStart => exact ⟨hi, Lr, (hi : Int) - 1, Nat.le_refl _, rfl, by go_num, HSW, Lib.hid ⟨HG.out, fun p q h1 h2 h3 => by omega, fun p q h1 h2 h3 => by omega⟩, HSR⟩
      case round =>
        clear HSW HG HSR HLL HOK Lr
        obtain ⟨m, Lr, z, hm, hz, rfl, HSW, HH, HSR⟩ := hrel
        have HLL : Hid (Lr.length = n) := Lib.hid (HSW.out.len.trans HLN.out)
        have HOK : Hid (∀ x ∈ Lr, OkI x) := Lib.hid (fun x hx => HOKL.out x (HSW.out.perm.mem_iff.1 hx))
        cases m with
        | zero =>
          obtain rfl : z = -1 := by omega
          clear hz
          go_wp2_with fail
          go_end0
          have h9 := HH.out.o
          rw [hahi, Nat.add_zero] at h9
          exact ⟨rfl, Lr, HSW.out, h9, HSR.out⟩
        | succ m =>
          obtain rfl : z = (m : Int) := by omega
          clear hz
          have hk0 : (m : Int) ≥ 0 := by omega
          obtain ⟨im, him⟩ : ∃ im, im = a + m := ⟨_, rfl⟩
          have him2 : (a : Int) + (m : Int) = (im : Int) := by omega
          have himn : im < n := by omega
          have HIM := Lib.hid him
          clear him
          by_cases hm0 : m = 0
          · have him0 : im = a := by have := HIM.out; omega
            subst him0
            clear hm0
            have hmx := mixed
            have hil : im < Lr.length := by rw [HLL.out]; omega
            have HSRN := Lib.hid ((HSR.out.swap hil hil).drew)
            obtain ⟨⟨x0, x1, x2⟩, fx0, fx1, fx2⟩ := row_at HSR.out.r hil rfl
            obtain ⟨x, hx⟩ : ∃ x, x = Lr[im]! := ⟨_, rfl⟩
            rw [← hx] at x0 x1 x2
            rw [← hx] at HSRN
            clear hx
            obtain ⟨xi, xb, xs⟩ := x
            simp only at x0 x1 x2
            have hj0 : (0 : Int) ≤ (im : Int) := Int.natCast_nonneg _
            have hj1 : (im : Int) < (n : Int) := by omega
            have hgl := HSR.out.lt
            clear hil
            go_upto_region 10 with fail
            have dx0 : wr.drew.cell? ⟨g, im * 3, none⟩ = some (.int .i64 xi) := x0
            have dxf0 : wr.drew.frozen? ⟨g, im * 3, none⟩ = false := fx0
            have dx1 : wr.drew.cell? ⟨g, im * 3 + 1, none⟩ = some (.int .i64 xb) := x1
            have dxf1 : wr.drew.frozen? ⟨g, im * 3 + 1, none⟩ = false := fx1
            have dx2 : wr.drew.cell? ⟨g, im * 3 + 2, none⟩ = some (.int .i64 xs) := x2
            have dxf2 : wr.drew.frozen? ⟨g, im * 3 + 2, none⟩ = false := fx2
            have hgd : g < wr.drew.heap.size := hgl
            go_big_region_o
            clear x0 x1 x2 fx0 fx1 fx2 dx0 dx1 dx2 dxf0 dxf1 dxf2 hgl hgd hj0 hj1 HSR
            have HSR : Hid (SR w0 g c (sw Lr im im) (put3 (put3 wr g (im * 3) ⟨xi, xb, xs⟩) g (im * 3) ⟨xi, xb, xs⟩).drew) := HSRN
            have HLL2 : Hid ((sw Lr im im).length = n) := Lib.hid (by rw [sw_len]; exact HLL.out)
            clear HSRN hmx
            have HSWs : Hid (Sw im b Lr (sw Lr im im)) := Lib.hid (.step (.refl _) (by omega) (by rw [HIM.out]; omega) (by rw [HLL.out]; exact hbn))
            have HOK2 : Hid (∀ x ∈ sw Lr im im, OkI x) := Lib.hid (fun x hx => HOK.out x (HSWs.out.perm.mem_iff.1 hx))
            have HGC : Hid (Gd s (sw Lr im im) im m (0 + 1)) := Lib.hid (by
              have h9 := Gd.cut HH.out.g (by rw [HLL.out]; omega)
              rw [← HIM.out] at h9
              exact h9)
            have CS := Lib.hid (sd_any w0 _ g c hh n s _ HSR.out HLL2.out HOK2.out HC.out hne HS.out.1 HS.out.2 hl 0 m im (by omega) (Nat.zero_le _) HGC.out)
            go_wp2_with fail
            refine CS.out.mono ?_
            rintro e w8 ⟨rfl, L2, k1, k2, k3⟩
            have HSW2 : Hid (Sw im b L L2) := Lib.hid ((HSW.out.trans HSWs.out).trans (k1.mono (Nat.le_refl _) (by omega) (by rw [HLL2.out]; exact hbn)))
            have HK1 : Hid (Sw im (im + m) (sw Lr im (im + m)) L2) := Lib.hid (by
              rw [← HIM.out]
              rw [← HIM.out] at k1
              exact k1)
            have HH2 : Hid (Hs s L2 im m hi) := Lib.hid (HH.out.step (by omega) (by rw [HLL.out]; omega) HK1.out k2)
            have HSR2 := Lib.hid k3
            clear k1 k2 k3 CS
            go_wp2_with fail
            go_roundw
            case rel => exact ⟨m, L2, (m : Int) - 1, by omega, rfl, rfl, HSW2, HH2, HSR2⟩
            case measure => simp [intOf]
          · have HNE : Hid (a ≠ im) := Lib.hid (by have := HIM.out; omega)
            clear hm0
            have hmx := mixed
            have hil : a < Lr.length := by rw [HLL.out]; omega
            have hjl : im < Lr.length := by rw [HLL.out]; omega
            have HSRN := Lib.hid ((HSR.out.swap hil hjl).drew)
            obtain ⟨⟨x0, x1, x2⟩, fx0, fx1, fx2⟩ := row_at HSR.out.r hil rfl
            obtain ⟨⟨y0, y1, y2⟩, fy0, fy1, fy2⟩ := row_at HSR.out.r hjl rfl
            obtain ⟨x, hx⟩ : ∃ x, x = Lr[a]! := ⟨_, rfl⟩
            obtain ⟨y, hy⟩ : ∃ y, y = Lr[im]! := ⟨_, rfl⟩
            rw [← hx] at x0 x1 x2
            rw [← hy] at y0 y1 y2
            rw [← hx, ← hy] at HSRN
            clear hx hy
            obtain ⟨xi, xb, xs⟩ := x
            obtain ⟨yi, yb, ys⟩ := y
            simp only at x0 x1 x2 y0 y1 y2
            have hj0 : (0 : Int) ≤ (a : Int) := Int.natCast_nonneg _
            have hj1 : (a : Int) < (n : Int) := by omega
            have hp0 : (0 : Int) ≤ (im : Int) := Int.natCast_nonneg _
            have hp1 : (im : Int) < (n : Int) := by omega
            have hgl := HSR.out.lt
            have n00 : ¬ a * 3 = im * 3 := by have := HNE.out; omega
            have m00 : ¬ im * 3 = a * 3 := by have := HNE.out; omega
            have n01 : ¬ a * 3 = im * 3 + 1 := by have := HNE.out; omega
            have m01 : ¬ im * 3 + 1 = a * 3 := by have := HNE.out; omega
            have n02 : ¬ a * 3 = im * 3 + 2 := by have := HNE.out; omega
            have m02 : ¬ im * 3 + 2 = a * 3 := by have := HNE.out; omega
            have n10 : ¬ a * 3 + 1 = im * 3 := by have := HNE.out; omega
            have m10 : ¬ im * 3 = a * 3 + 1 := by have := HNE.out; omega
            have n11 : ¬ a * 3 + 1 = im * 3 + 1 := by have := HNE.out; omega
            have m11 : ¬ im * 3 + 1 = a * 3 + 1 := by have := HNE.out; omega
            have n12 : ¬ a * 3 + 1 = im * 3 + 2 := by have := HNE.out; omega
            have m12 : ¬ im * 3 + 2 = a * 3 + 1 := by have := HNE.out; omega
            have n20 : ¬ a * 3 + 2 = im * 3 := by have := HNE.out; omega
            have m20 : ¬ im * 3 = a * 3 + 2 := by have := HNE.out; omega
            have n21 : ¬ a * 3 + 2 = im * 3 + 1 := by have := HNE.out; omega
            have m21 : ¬ im * 3 + 1 = a * 3 + 2 := by have := HNE.out; omega
            have n22 : ¬ a * 3 + 2 = im * 3 + 2 := by have := HNE.out; omega
            have m22 : ¬ im * 3 + 2 = a * 3 + 2 := by have := HNE.out; omega
            clear hil hjl
            go_upto_region 10 with fail
            have dx0 : wr.drew.cell? ⟨g, a * 3, none⟩ = some (.int .i64 xi) := x0
            have dxf0 : wr.drew.frozen? ⟨g, a * 3, none⟩ = false := fx0
            have dx1 : wr.drew.cell? ⟨g, a * 3 + 1, none⟩ = some (.int .i64 xb) := x1
            have dxf1 : wr.drew.frozen? ⟨g, a * 3 + 1, none⟩ = false := fx1
            have dx2 : wr.drew.cell? ⟨g, a * 3 + 2, none⟩ = some (.int .i64 xs) := x2
            have dxf2 : wr.drew.frozen? ⟨g, a * 3 + 2, none⟩ = false := fx2
            have dy0 : wr.drew.cell? ⟨g, im * 3, none⟩ = some (.int .i64 yi) := y0
            have dyf0 : wr.drew.frozen? ⟨g, im * 3, none⟩ = false := fy0
            have dy1 : wr.drew.cell? ⟨g, im * 3 + 1, none⟩ = some (.int .i64 yb) := y1
            have dyf1 : wr.drew.frozen? ⟨g, im * 3 + 1, none⟩ = false := fy1
            have dy2 : wr.drew.cell? ⟨g, im * 3 + 2, none⟩ = some (.int .i64 ys) := y2
            have dyf2 : wr.drew.frozen? ⟨g, im * 3 + 2, none⟩ = false := fy2
            have hgd : g < wr.drew.heap.size := hgl
            go_big_region_o
            clear n00 n01 n02 n10 n11 n12 n20 n21 n22 m00 m01 m02 m10 m11 m12 m20 m21 m22 x0 x1 x2 y0 y1 y2 fx0 fx1 fx2 fy0 fy1 fy2 dx0 dx1 dx2 dy0 dy1 dy2 dxf0 dxf1 dxf2 dyf0 dyf1 dyf2 hgl hgd hj0 hj1 hp0 hp1 HSR
            have HSR : Hid (SR w0 g c (sw Lr a im) (put3 (put3 wr g (a * 3) ⟨yi, yb, ys⟩) g (im * 3) ⟨xi, xb, xs⟩).drew) := HSRN
            have HLL2 : Hid ((sw Lr a im).length = n) := Lib.hid (by rw [sw_len]; exact HLL.out)
            clear HSRN hmx
            have HSWs : Hid (Sw a b Lr (sw Lr a im)) := Lib.hid (.step (.refl _) (by omega) (by rw [HIM.out]; omega) (by rw [HLL.out]; exact hbn))
            have HOK2 : Hid (∀ x ∈ sw Lr a im, OkI x) := Lib.hid (fun x hx => HOK.out x (HSWs.out.perm.mem_iff.1 hx))
            have HGC : Hid (Gd s (sw Lr a im) a m (0 + 1)) := Lib.hid (by
              have h9 := Gd.cut HH.out.g (by rw [HLL.out]; omega)
              rw [← HIM.out] at h9
              exact h9)
            have CS := Lib.hid (sd_any w0 _ g c hh n s _ HSR.out HLL2.out HOK2.out HC.out hne HS.out.1 HS.out.2 hl 0 m a (by omega) (Nat.zero_le _) HGC.out)
            go_wp2_with fail
            refine CS.out.mono ?_
            rintro e w8 ⟨rfl, L2, k1, k2, k3⟩
            have HSW2 : Hid (Sw a b L L2) := Lib.hid ((HSW.out.trans HSWs.out).trans (k1.mono (Nat.le_refl _) (by omega) (by rw [HLL2.out]; exact hbn)))
            have HK1 : Hid (Sw a (a + m) (sw Lr a (a + m)) L2) := Lib.hid (by
              rw [← HIM.out]
              rw [← HIM.out] at k1
              exact k1)
            have HH2 : Hid (Hs s L2 a m hi) := Lib.hid (HH.out.step (by omega) (by rw [HLL.out]; omega) HK1.out k2)
            have HSR2 := Lib.hid k3
            clear k1 k2 k3 CS
            go_wp2_with fail
            go_roundw
            case rel => exact ⟨m, L2, (m : Int) - 1, by omega, rfl, rfl, HSW2, HH2, HSR2⟩
            case measure => simp [intOf]
end Go.Proofs.Ytcipgjelbnmdiaa.HP
