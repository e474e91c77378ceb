/-
  slices.reverseRangeCmpFunc at items.
-/
import Derived.Test.YtcipgjelbnmdiaaHqC
namespace Go.Proofs.Ytcipgjelbnmdiaa.HP
open Go.RowKit Go.Shelf Go.Proofs.Ytcipgjelbnmdiaa.B
attribute [local go_sem] Oper.semAt_some

set_option maxRecDepth 100000 in
set_option maxHeartbeats 8000000 in
theorem rr_any (w0 w : World) (g c hh n : Nat) (s : Int) (L : List It) (h : SR w0 g c L w) (hn : L.length = n) (hok : ∀ x ∈ L, OkI x) (hc : w0.cell? ⟨hh, 0, none⟩ = some (.int .i64 s)) (_hne : hh ≠ g) (h1 : 1 ≤ s) (h2 : s ≤ 1048576) (hl : n ≤ 100000) (a b : Nat) (hab : a < b) (hbn : b ≤ n) :
    Calls Try.prog 78 #[.slice (some ⟨g, 0, none⟩) n c, .int .i64 (a : Int), .int .i64 (b : Int), fv hh] w fun e w' => e = .returned (.tuple #[]) ∧ ∃ L', Sw a b L L' ∧ SR w0 g c L' w' := by
  have HOK0 := Lib.hid hok
  have HC := Lib.hid hc
  have HS := Lib.hid (And.intro h1 h2)
  have H0 := Lib.hid h
  have HN0 := Lib.hid hn
  clear hok hc h1 h2 h hn
  have HLN := HN0
  obtain ⟨b1, hb1⟩ : ∃ b1, b = b1 + 1 := ⟨b - 1, by omega⟩
  have hb2 : (b : Int) - 1 = (b1 : Int) := by omega
  have HB1 := Lib.hid hb1
  have hb1n : b1 < n := by omega
  clear hb1
  go_enter Try.func78, Try.ntmps78
  go_wp2_with fail
  go_loopw [8, 9] (fun v u wr => ∃ (i j : Nat) (z : Int) (Lr : List It), a ≤ i ∧ z = (j : Int) - 1 ∧ j ≤ b1 + 1 ∧ i ≤ b1 + 1 ∧ v = .int .i64 (i : Int) ∧ u = .int .i64 z ∧ Hid (Sw a b L Lr) ∧ Hid (SR w0 g c Lr wr)) (fun v _ _ => n + 1 - (intOf v).toNat)
  case atStart => exact ⟨a, b1 + 1, (b1 : Int), L, Nat.le_refl _, by omega, Nat.le_refl _, by have := HB1.out; omega, rfl, rfl, Lib.hid (.refl _), H0⟩
  case round =>
    clear H0
    obtain ⟨i, j, z, Lr, hai, hz, hjb, hib, rfl, rfl, HSW, HSR⟩ := hrel
    have HLL : Hid (Lr.length = n) := Lib.hid (HSW.out.len.trans HLN.out)
    by_cases hij : (i : Int) < z
    · obtain ⟨k, hk⟩ : ∃ k : Nat, z = (k : Int) := ⟨j - 1, by omega⟩
      subst hk
      have hkb : k ≤ b1 := by omega
      have hij2 : i < k := by omega
      clear hz hjb
      have hkn : k < n := by omega
      have hin : i < n := by omega
      have HNE : Hid (i ≠ k) := Lib.hid (by omega)
      go_wp2_with fail
      have hmx := mixed
      have hil : i < Lr.length := by rw [HLL.out]; omega
      have hjl : k < Lr.length := by rw [HLL.out]; omega
      have HSRN := Lib.hid ((HSR.out.swap hil hjl).drew)
      obtain ⟨⟨x0, x1, x2⟩, fx0, fx1, fx2⟩ := row_at HSR.out.r hil rfl
      obtain ⟨⟨y0, y1, y2⟩, fy0, fy1, fy2⟩ := row_at HSR.out.r hjl rfl
      obtain ⟨x, hx⟩ : ∃ x, x = Lr[i]! := ⟨_, rfl⟩
      obtain ⟨y, hy⟩ : ∃ y, y = Lr[k]! := ⟨_, rfl⟩
      rw [← hx] at x0 x1 x2
      rw [← hy] at y0 y1 y2
      rw [← hx, ← hy] at HSRN
      clear hx hy
      obtain ⟨xi, xb, xs⟩ := x
      obtain ⟨yi, yb, ys⟩ := y
      simp only at x0 x1 x2 y0 y1 y2
      have hj0 : (0 : Int) ≤ (i : Int) := Int.natCast_nonneg _
      have hj1 : (i : Int) < (n : Int) := by omega
      have hp0 : (0 : Int) ≤ (k : Int) := Int.natCast_nonneg _
      have hp1 : (k : Int) < (n : Int) := by omega
      have hgl := HSR.out.lt
      have n00 : ¬ i * 3 = k * 3 := by have := HNE.out; omega
      have m00 : ¬ k * 3 = i * 3 := by have := HNE.out; omega
      have n01 : ¬ i * 3 = k * 3 + 1 := by have := HNE.out; omega
      have m01 : ¬ k * 3 + 1 = i * 3 := by have := HNE.out; omega
      have n02 : ¬ i * 3 = k * 3 + 2 := by have := HNE.out; omega
      have m02 : ¬ k * 3 + 2 = i * 3 := by have := HNE.out; omega
      have n10 : ¬ i * 3 + 1 = k * 3 := by have := HNE.out; omega
      have m10 : ¬ k * 3 = i * 3 + 1 := by have := HNE.out; omega
      have n11 : ¬ i * 3 + 1 = k * 3 + 1 := by have := HNE.out; omega
      have m11 : ¬ k * 3 + 1 = i * 3 + 1 := by have := HNE.out; omega
      have n12 : ¬ i * 3 + 1 = k * 3 + 2 := by have := HNE.out; omega
      have m12 : ¬ k * 3 + 2 = i * 3 + 1 := by have := HNE.out; omega
      have n20 : ¬ i * 3 + 2 = k * 3 := by have := HNE.out; omega
      have m20 : ¬ k * 3 = i * 3 + 2 := by have := HNE.out; omega
      have n21 : ¬ i * 3 + 2 = k * 3 + 1 := by have := HNE.out; omega
      have m21 : ¬ k * 3 + 1 = i * 3 + 2 := by have := HNE.out; omega
      have n22 : ¬ i * 3 + 2 = k * 3 + 2 := by have := HNE.out; omega
      have m22 : ¬ k * 3 + 2 = i * 3 + 2 := by have := HNE.out; omega
      clear hil hjl
      go_upto_region 3 with fail
      have dx0 : wr.drew.cell? ⟨g, i * 3, none⟩ = some (.int .i64 xi) := x0
      have dxf0 : wr.drew.frozen? ⟨g, i * 3, none⟩ = false := fx0
      have dx1 : wr.drew.cell? ⟨g, i * 3 + 1, none⟩ = some (.int .i64 xb) := x1
      have dxf1 : wr.drew.frozen? ⟨g, i * 3 + 1, none⟩ = false := fx1
      have dx2 : wr.drew.cell? ⟨g, i * 3 + 2, none⟩ = some (.int .i64 xs) := x2
      have dxf2 : wr.drew.frozen? ⟨g, i * 3 + 2, none⟩ = false := fx2
      have dy0 : wr.drew.cell? ⟨g, k * 3, none⟩ = some (.int .i64 yi) := y0
      have dyf0 : wr.drew.frozen? ⟨g, k * 3, none⟩ = false := fy0
      have dy1 : wr.drew.cell? ⟨g, k * 3 + 1, none⟩ = some (.int .i64 yb) := y1
      have dyf1 : wr.drew.frozen? ⟨g, k * 3 + 1, none⟩ = false := fy1
      have dy2 : wr.drew.cell? ⟨g, k * 3 + 2, none⟩ = some (.int .i64 ys) := y2
      have dyf2 : wr.drew.frozen? ⟨g, k * 3 + 2, none⟩ = false := fy2
      have hgd : g < wr.drew.heap.size := hgl
      go_big_region_o
      clear n00 n01 n02 n10 n11 n12 n20 n21 n22 m00 m01 m02 m10 m11 m12 m20 m21 m22 x0 x1 x2 y0 y1 y2 fx0 fx1 fx2 fy0 fy1 fy2 dx0 dx1 dx2 dy0 dy1 dy2 dxf0 dxf1 dxf2 dyf0 dyf1 dyf2 hgl hgd hj0 hj1 hp0 hp1 HSR
      have HSR : Hid (SR w0 g c (sw Lr i k) (put3 (put3 wr g (i * 3) ⟨yi, yb, ys⟩) g (k * 3) ⟨xi, xb, xs⟩).drew) := HSRN
      have HLL2 : Hid ((sw Lr i k).length = n) := Lib.hid (by rw [sw_len]; exact HLL.out)
      clear HSRN hmx

      have HSW2 : Hid (Sw a b L (sw Lr i k)) := Lib.hid (.step HSW.out (by have := HB1.out; omega) (by have := HB1.out; omega) (by rw [HLL.out]; exact hbn))
      go_wp2_with fail
      go_roundw
      case rel => exact ⟨i + 1, k, (k : Int) - 1, sw Lr i k, by omega, rfl, by omega, by omega, by go_num, rfl, HSW2, HSR⟩
      case measure => simp [intOf]; omega
    · go_wp2_with fail
      go_end0
      exact ⟨rfl, Lr, HSW.out, HSR.out⟩
end Go.Proofs.Ytcipgjelbnmdiaa.HP
