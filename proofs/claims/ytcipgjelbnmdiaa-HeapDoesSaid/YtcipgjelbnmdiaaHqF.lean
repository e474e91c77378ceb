/-
  slices.partitionEqualCmpFunc at items.
-/
import Derived.Test.YtcipgjelbnmdiaaHqE
namespace Go.Proofs.Ytcipgjelbnmdiaa.HP
open Go.RowKit Go.Shelf Go.Proofs.Ytcipgjelbnmdiaa.B
attribute [local go_sem] Oper.semAt_some

/-- Not behind the pivot. -/
def Fe (s : Int) (x p : It) : Bool := !ahB s p x
set_option maxRecDepth 100000 in
set_option maxHeartbeats 16000000 in
theorem pe_any (w0 w : World) (g c hh n : Nat) (s : Int) (L : List It) (h : SR w0 g c L w) (hn : L.length = n) (hok : ∀ x ∈ L, OkI x) (hc : w0.cell? ⟨hh, 0, none⟩ = some (.int .i64 s)) (hne : hh ≠ g) (h1 : 1 ≤ s) (h2 : s ≤ 1048576) (hl : n ≤ 100000) (a b p : Nat) (hap : a ≤ p) (hpb : p < b) (hbn : b ≤ n) :
    Calls Try.prog 80 #[.slice (some ⟨g, 0, none⟩) n c, .int .i64 (a : Int), .int .i64 (b : Int), .int .i64 (p : Int), fv hh] w fun e w' => ∃ (m : Nat) (L' : List It), e = .returned (.int .i64 (m : Int)) ∧ a < m ∧ m ≤ b ∧ Sw a b L L' ∧ L'[a]! = L[p]! ∧ (∀ q, a < q → q < m → Fe s L'[q]! L'[a]! = true) ∧ (∀ q, m ≤ q → q < b → Fe s L'[q]! L'[a]! = false) ∧ SR w0 g c L' w' := by
  have HOK0 := Lib.hid hok
  have HC := Lib.hid hc
  have HS := Lib.hid (And.intro h1 h2)
  have H0 := Lib.hid h
  have HN0 := Lib.hid hn
  clear hok hc h1 h2 h hn
  have HOKL := HOK0
  have HLN := HN0
  obtain ⟨b1, hb1⟩ : ∃ b1, b = b1 + 1 := ⟨b - 1, by omega⟩
  have hb2 : (b : Int) - 1 = (b1 : Int) := by omega
  have hb1n : b1 < n := by omega
  obtain ⟨a1, ha1⟩ : ∃ a1, a1 = a + 1 := ⟨_, rfl⟩
  have ha2 : (a : Int) + 1 = (a1 : Int) := by omega
  have ha1n : a1 ≤ n := by omega
  have HB1 : Hid (a1 = a + 1 ∧ b = b1 + 1 ∧ a < b) := Lib.hid ⟨ha1, hb1, by omega⟩
  have han : a < n := by omega
  clear ha1 hb1
  go_enter Try.func80, Try.ntmps80
  go_upto_region 1 with fail
  have HLL := HN0
  obtain ⟨V, hV⟩ : ∃ V, V = L[p]! := ⟨_, rfl⟩
  have HV := Lib.hid hV
  clear hV
  go_cut [10] from 13 to 27 (fun v wx => v = .int .i64 0 ∧ ∃ L1, Hid (Sw a b L L1) ∧ Hid (L1[a]! = V) ∧ Hid (SR w0 g c L1 wx))
  case first =>
    have HSR := H0
    clear H0
    by_cases hpa : p = a
    · subst hpa
      have hmx := mixed
      have hil : p < L.length := by rw [HLL.out]; omega
      have HSRN := Lib.hid ((HSR.out.swap hil hil).drew)
      obtain ⟨⟨x0, x1, x2⟩, fx0, fx1, fx2⟩ := row_at HSR.out.r hil rfl
      obtain ⟨x, hx⟩ : ∃ x, x = L[p]! := ⟨_, rfl⟩
      rw [← hx] at x0 x1 x2
      rw [← hx] at HSRN
      clear hx
      obtain ⟨xi, xb, xs⟩ := x
      simp only at x0 x1 x2
      have hj0 : (0 : Int) ≤ (p : Int) := Int.natCast_nonneg _
      have hj1 : (p : Int) < (n : Int) := by omega
      have hgl := HSR.out.lt
      clear hil
      go_upto_region 1 with fail
      have dx0 : w.drew.cell? ⟨g, p * 3, none⟩ = some (.int .i64 xi) := x0
      have dxf0 : w.drew.frozen? ⟨g, p * 3, none⟩ = false := fx0
      have dx1 : w.drew.cell? ⟨g, p * 3 + 1, none⟩ = some (.int .i64 xb) := x1
      have dxf1 : w.drew.frozen? ⟨g, p * 3 + 1, none⟩ = false := fx1
      have dx2 : w.drew.cell? ⟨g, p * 3 + 2, none⟩ = some (.int .i64 xs) := x2
      have dxf2 : w.drew.frozen? ⟨g, p * 3 + 2, none⟩ = false := fx2
      have hgd : g < w.drew.heap.size := hgl
      go_big_region_o
      clear x0 x1 x2 fx0 fx1 fx2 dx0 dx1 dx2 dxf0 dxf1 dxf2 hgl hgd hj0 hj1 HSR
      have HSR : Hid (SR w0 g c (sw L p p) (put3 (put3 w g (p * 3) ⟨xi, xb, xs⟩) g (p * 3) ⟨xi, xb, xs⟩).drew) := HSRN
      have HLL2 : Hid ((sw L p p).length = n) := Lib.hid (by rw [sw_len]; exact HLL.out)
      clear HSRN hmx

      go_wp2_with fail
      go_meet
      exact ⟨rfl, _, Lib.hid (.step (.refl _) ⟨Nat.le_refl _, hpb⟩ ⟨Nat.le_refl _, hpb⟩ (by rw [HLL.out]; exact hbn)), Lib.hid (by rw [sw_at (by rw [HLL.out]; omega) (by rw [HLL.out]; omega), if_pos rfl]; exact HV.out.symm), HSR⟩
    · have HNE : Hid (a ≠ p) := Lib.hid (fun e => hpa e.symm)
      have hmx := mixed
      have hil : a < L.length := by rw [HLL.out]; omega
      have hjl : p < L.length := by rw [HLL.out]; omega
      have HSRN := Lib.hid ((HSR.out.swap hil hjl).drew)
      obtain ⟨⟨x0, x1, x2⟩, fx0, fx1, fx2⟩ := row_at HSR.out.r hil rfl
      obtain ⟨⟨y0, y1, y2⟩, fy0, fy1, fy2⟩ := row_at HSR.out.r hjl rfl
      obtain ⟨x, hx⟩ : ∃ x, x = L[a]! := ⟨_, rfl⟩
      obtain ⟨y, hy⟩ : ∃ y, y = L[p]! := ⟨_, rfl⟩
      rw [← hx] at x0 x1 x2
      rw [← hy] at y0 y1 y2
      rw [← hx, ← hy] at HSRN
      clear hx hy
      obtain ⟨xi, xb, xs⟩ := x
      obtain ⟨yi, yb, ys⟩ := y
      simp only at x0 x1 x2 y0 y1 y2
      have hj0 : (0 : Int) ≤ (a : Int) := Int.natCast_nonneg _
      have hj1 : (a : Int) < (n : Int) := by omega
      have hp0 : (0 : Int) ≤ (p : Int) := Int.natCast_nonneg _
      have hp1 : (p : Int) < (n : Int) := by omega
      have hgl := HSR.out.lt
      have n00 : ¬ a * 3 = p * 3 := by have := HNE.out; omega
      have m00 : ¬ p * 3 = a * 3 := by have := HNE.out; omega
      have n01 : ¬ a * 3 = p * 3 + 1 := by have := HNE.out; omega
      have m01 : ¬ p * 3 + 1 = a * 3 := by have := HNE.out; omega
      have n02 : ¬ a * 3 = p * 3 + 2 := by have := HNE.out; omega
      have m02 : ¬ p * 3 + 2 = a * 3 := by have := HNE.out; omega
      have n10 : ¬ a * 3 + 1 = p * 3 := by have := HNE.out; omega
      have m10 : ¬ p * 3 = a * 3 + 1 := by have := HNE.out; omega
      have n11 : ¬ a * 3 + 1 = p * 3 + 1 := by have := HNE.out; omega
      have m11 : ¬ p * 3 + 1 = a * 3 + 1 := by have := HNE.out; omega
      have n12 : ¬ a * 3 + 1 = p * 3 + 2 := by have := HNE.out; omega
      have m12 : ¬ p * 3 + 2 = a * 3 + 1 := by have := HNE.out; omega
      have n20 : ¬ a * 3 + 2 = p * 3 := by have := HNE.out; omega
      have m20 : ¬ p * 3 = a * 3 + 2 := by have := HNE.out; omega
      have n21 : ¬ a * 3 + 2 = p * 3 + 1 := by have := HNE.out; omega
      have m21 : ¬ p * 3 + 1 = a * 3 + 2 := by have := HNE.out; omega
      have n22 : ¬ a * 3 + 2 = p * 3 + 2 := by have := HNE.out; omega
      have m22 : ¬ p * 3 + 2 = a * 3 + 2 := by have := HNE.out; omega
      clear hil hjl
      go_upto_region 1 with fail
      have dx0 : w.drew.cell? ⟨g, a * 3, none⟩ = some (.int .i64 xi) := x0
      have dxf0 : w.drew.frozen? ⟨g, a * 3, none⟩ = false := fx0
      have dx1 : w.drew.cell? ⟨g, a * 3 + 1, none⟩ = some (.int .i64 xb) := x1
      have dxf1 : w.drew.frozen? ⟨g, a * 3 + 1, none⟩ = false := fx1
      have dx2 : w.drew.cell? ⟨g, a * 3 + 2, none⟩ = some (.int .i64 xs) := x2
      have dxf2 : w.drew.frozen? ⟨g, a * 3 + 2, none⟩ = false := fx2
      have dy0 : w.drew.cell? ⟨g, p * 3, none⟩ = some (.int .i64 yi) := y0
      have dyf0 : w.drew.frozen? ⟨g, p * 3, none⟩ = false := fy0
      have dy1 : w.drew.cell? ⟨g, p * 3 + 1, none⟩ = some (.int .i64 yb) := y1
      have dyf1 : w.drew.frozen? ⟨g, p * 3 + 1, none⟩ = false := fy1
      have dy2 : w.drew.cell? ⟨g, p * 3 + 2, none⟩ = some (.int .i64 ys) := y2
      have dyf2 : w.drew.frozen? ⟨g, p * 3 + 2, none⟩ = false := fy2
      have hgd : g < w.drew.heap.size := hgl
      go_big_region_o
      clear n00 n01 n02 n10 n11 n12 n20 n21 n22 m00 m01 m02 m10 m11 m12 m20 m21 m22 x0 x1 x2 y0 y1 y2 fx0 fx1 fx2 fy0 fy1 fy2 dx0 dx1 dx2 dy0 dy1 dy2 dxf0 dxf1 dxf2 dyf0 dyf1 dyf2 hgl hgd hj0 hj1 hp0 hp1 HSR
      have HSR : Hid (SR w0 g c (sw L a p) (put3 (put3 w g (a * 3) ⟨yi, yb, ys⟩) g (p * 3) ⟨xi, xb, xs⟩).drew) := HSRN
      have HLL2 : Hid ((sw L a p).length = n) := Lib.hid (by rw [sw_len]; exact HLL.out)
      clear HSRN hmx

      go_wp2_with fail
      go_meet
      exact ⟨rfl, _, Lib.hid (.step (.refl _) ⟨Nat.le_refl _, by omega⟩ ⟨by omega, hpb⟩ (by rw [HLL.out]; exact hbn)), Lib.hid (by rw [sw_at (by rw [HLL.out]; omega) (by rw [HLL.out]; omega), if_neg (fun e => hpa e.symm), if_pos rfl]; exact HV.out.symm), HSR⟩
  case rest =>
  obtain ⟨rfl, Lr, HSWL, HPV, HSR⟩ := hcut
  obtain ⟨w1, hw1⟩ : ∃ w1, w1 = wc := ⟨_, rfl⟩
  rw [← hw1] at HSR ⊢
  clear hw1 HLL H0 hap hpb
  have HLL : Hid (Lr.length = n) := Lib.hid (HSWL.out.len.trans HLN.out)
  have HOK : Hid (∀ x ∈ Lr, OkI x) := Lib.hid (fun x hx => HOKL.out x (HSWL.out.perm.mem_iff.1 hx))
  have HPT : Hid (Pt (Fe s) V L Lr a b a1 b1) := Lib.hid ⟨HSWL.out, HPV.out, by have := HB1.out; omega, by have := HB1.out; omega, by have := HB1.out; omega, fun p h1 h2 => by have := HB1.out; omega, fun q h1 h2 => by have := HB1.out; omega⟩
  go_wp2_with fail
  go_loopw [11, 12] (fun v u wr => ∃ (i0 j0 : Nat) (Lr : List It), i0 ≤ n ∧ j0 ≤ n ∧ v = .int .i64 (i0 : Int) ∧ u = .int .i64 (j0 : Int) ∧ Hid (Pt (Fe s) V L Lr a b i0 j0) ∧ Hid (SR w0 g c Lr wr)) (fun v _ _ => n + 1 - (intOf v).toNat)
  case atStart => exact ⟨a1, b1, _, ha1n, by omega, rfl, rfl, HPT, HSR⟩
  case round =>
    clear HSR HLL HOK HPT HSWL
    obtain ⟨i0, j0, Lr, hi0n, hj0n, rfl, rfl, HPT, HSR⟩ := hrel
    have HLL : Hid (Lr.length = n) := Lib.hid (HPT.out.w.len.trans HLN.out)
    have HOK : Hid (∀ x ∈ Lr, OkI x) := Lib.hid (fun x hx => HOKL.out x (HPT.out.w.perm.mem_iff.1 hx))
    go_upto_block 2 with fail
    go_cut [11] from 31 to 49 (fun v wx => ∃ i2 : Nat, v = .int .i64 (i2 : Int) ∧ i2 ≤ n ∧ i0 ≤ i2 ∧ Hid (Pt (Fe s) V L Lr a b i2 j0 ∧ (¬ i2 ≤ j0 ∨ (Fe s) Lr[i2]! Lr[a]! = false)) ∧ Hid (SR w0 g c Lr wx))
    case first =>
      go_wp2_with fail
      go_loopw [11] (fun v wr => ∃ k2 : Nat, k2 ≤ n ∧ i0 ≤ k2 ∧ v = .int .i64 (k2 : Int) ∧ Hid (Pt (Fe s) V L Lr a b k2 j0) ∧ Hid (SR w0 g c Lr wr)) (fun v _ => n + 1 - (intOf v).toNat)
      case atStart => exact ⟨i0, by omega, Nat.le_refl _, rfl, HPT, HSR⟩
      case round =>
        clear HPT HSR
        obtain ⟨k2, hkn, hkb, rfl, HPT, HSR⟩ := hrel
        by_cases hng : k2 ≤ j0
        · have hkn2 : k2 < n := by have := HPT.out.jb; omega
          have hd : decide ((k2 : Int) ≤ (j0 : Int)) = true := decide_eq_true (by omega)
          have hdr := HSR.out.drew
          have hil : a < Lr.length := by rw [HLL.out]; omega
          have hjl : k2 < Lr.length := by rw [HLL.out]; omega
          have EN := cmp_class (w0 := w0) (g := g) (c := c) (L := Lr) HC.out hne HS.out.1 HS.out.2 Lr[a]! Lr[k2]! (HOK.out _ (mem_at hil)) (HOK.out _ (mem_at hjl))
          have f0 : ∀ x : WIn (SR w0 g c Lr), x.w.cell? ⟨g, a * 3, none⟩ = some (.int .i64 Lr[a]!.id) := fun x => (x.h.at_ hil).1
          have f1 : ∀ x : WIn (SR w0 g c Lr), x.w.cell? ⟨g, a * 3 + 1, none⟩ = some (.int .i64 Lr[a]!.base) := fun x => (x.h.at_ hil).2.1
          have f2 : ∀ x : WIn (SR w0 g c Lr), x.w.cell? ⟨g, a * 3 + 2, none⟩ = some (.int .i64 Lr[a]!.since) := fun x => (x.h.at_ hil).2.2
          have p0 : ∀ x : WIn (SR w0 g c Lr), x.w.cell? ⟨g, k2 * 3, none⟩ = some (.int .i64 Lr[k2]!.id) := fun x => (x.h.at_ hjl).1
          have p1 : ∀ x : WIn (SR w0 g c Lr), x.w.cell? ⟨g, k2 * 3 + 1, none⟩ = some (.int .i64 Lr[k2]!.base) := fun x => (x.h.at_ hjl).2.1
          have p2 : ∀ x : WIn (SR w0 g c Lr), x.w.cell? ⟨g, k2 * 3 + 2, none⟩ = some (.int .i64 Lr[k2]!.since) := fun x => (x.h.at_ hjl).2.2
          haveI hNE : Nonempty (WIn (SR w0 g c Lr)) := ⟨⟨_, hdr⟩⟩
          have HAH := Lib.hid (cmpL_ah s Lr[a]! Lr[k2]!)
          obtain ⟨x, hx⟩ : ∃ x, x = Lr[a]! := ⟨_, rfl⟩
          obtain ⟨y, hy⟩ : ∃ y, y = Lr[k2]! := ⟨_, rfl⟩
          have HX := Lib.hid hx
          have HY := Lib.hid hy
          rw [← hx, ← hy] at EN HAH
          rw [← hx] at f0 f1 f2
          rw [← hy] at p0 p1 p2
          clear hx hy hil hjl
          obtain ⟨xi, xb, xs⟩ := x
          obtain ⟨yi, yb, ys⟩ := y
          simp only at f0 f1 f2 p0 p1 p2
          generalize cmpL s ⟨xi, xb, xs⟩ ⟨yi, yb, ys⟩ = cc at *
          have hj0 : (0 : Int) ≤ (a : Int) := Int.natCast_nonneg _
          have hj1 : (a : Int) < (n : Int) := by omega
          have hp0 : (0 : Int) ≤ (k2 : Int) := Int.natCast_nonneg _
          have hp1 : (k2 : Int) < (n : Int) := by omega
          go_upto_region 3 with fail
          go_cut [47] from 31 to 49 (fun t wx => t = .bool (!ahB s Lr[a]! Lr[k2]!) ∧ Hid (SR w0 g c Lr wx))
          case first =>
            refine wp_region_class (SR w0 g c Lr) (by kernel_rfl) (by kernel_rfl) hdr ?_
            repeat (go_big_quiet_step (exact EN _))
            refine wpQuiet_nil ?_
            rintro _ ⟨⟨wq, hwq⟩, rfl⟩
            go_wp2_with fail
            go_meet
            exact ⟨by rw [HAH.out, HX.out, HY.out], Lib.hid hwq⟩
          case rest =>
            obtain ⟨rfl, HSR2⟩ := hcut
            obtain ⟨w5, hwc⟩ : ∃ w5, w5 = wc := ⟨_, rfl⟩
            rw [← hwc] at HSR2 ⊢
            clear hwc f0 f1 f2 p0 p1 p2 EN hdr HSR HAH HX HY hj0 hj1 hp0 hp1 hNE
            have HSR := HSR2
            clear HSR2
            cases hcc : ahB s Lr[a]! Lr[k2]! with
            | true =>
              have HEND : Hid (Pt (Fe s) V L Lr a b k2 j0 ∧ (¬ k2 ≤ j0 ∨ (Fe s) Lr[k2]! Lr[a]! = false)) := Lib.hid ⟨HPT.out, .inr (congrArg (! ·) hcc)⟩
              go_wp2_with fail
              go_meet
              exact ⟨k2, rfl, hkn, hkb, HEND, HSR⟩
            | false =>
              obtain ⟨k3, hk3⟩ : ∃ k3, k3 = k2 + 1 := ⟨_, rfl⟩
              have hk4 : (k2 : Int) + 1 = (k3 : Int) := by omega
              have HPT3 : Hid (Pt (Fe s) V L Lr a b k3 j0) := Lib.hid (by rw [hk3]; exact HPT.out.up hng (congrArg (! ·) hcc))
              have hk5 : k3 ≤ n := by omega
              have hk6 : i0 ≤ k3 := by omega
              have hme : n + 1 - k3 < n + 1 - k2 := by omega
              clear hk3
              go_wp2_with fail
              go_roundw
              case rel => exact ⟨k3, hk5, hk6, rfl, HPT3, HSR⟩
              case measure => simp [intOf]; exact hme

        · have hd : decide ((k2 : Int) ≤ (j0 : Int)) = false := decide_eq_false (by omega)
          have hdr := HSR.out.drew
          haveI hNE : Nonempty (WIn (SR w0 g c Lr)) := ⟨⟨_, hdr⟩⟩
          go_upto_region 3 with fail
          go_cut [47] from 31 to 49 (fun t wx => t = .bool false ∧ Hid (SR w0 g c Lr wx))
          case first =>
            refine wp_region_class (SR w0 g c Lr) (by kernel_rfl) (by kernel_rfl) hdr ?_
            repeat (go_big_quiet_step (fail))
            refine wpQuiet_nil ?_
            rintro _ ⟨⟨wq, hwq⟩, rfl⟩
            go_wp2_with fail
            go_meet
            exact ⟨rfl, Lib.hid hwq⟩
          case rest =>
            obtain ⟨rfl, HSR2⟩ := hcut
            obtain ⟨w5, hwc⟩ : ∃ w5, w5 = wc := ⟨_, rfl⟩
            rw [← hwc] at HSR2 ⊢
            clear hwc hdr HSR hNE
            have HSR := HSR2
            clear HSR2
            have HEND : Hid (Pt (Fe s) V L Lr a b k2 j0 ∧ (¬ k2 ≤ j0 ∨ (Fe s) Lr[k2]! Lr[a]! = false)) := Lib.hid ⟨HPT.out, .inl hng⟩
            go_wp2_with fail
            go_meet
            exact ⟨k2, rfl, hkn, hkb, HEND, HSR⟩
    case rest =>
      obtain ⟨i2, rfl, hi2, hi2b, HFi2, HSR2⟩ := hcut
      have HPT : Hid (Pt (Fe s) V L Lr a b i2 j0) := Lib.hid HFi2.out.1
      have HSR := HSR2
      clear HSR2
      go_upto_block 4 with fail
      go_cut [12] from 50 to 67 (fun v wx => ∃ j2 : Nat, v = .int .i64 (j2 : Int) ∧ j2 ≤ n ∧ j2 ≤ j0 ∧ Hid (Pt (Fe s) V L Lr a b i2 j2 ∧ (¬ i2 ≤ j2 ∨ (Fe s) Lr[j2]! Lr[a]! = true)) ∧ Hid (SR w0 g c Lr wx))
      case first =>
        go_wp2_with fail
        go_loopw [12] (fun v wr => ∃ k2 : Nat, k2 ≤ n ∧ k2 ≤ j0 ∧ v = .int .i64 (k2 : Int) ∧ Hid (Pt (Fe s) V L Lr a b i2 k2) ∧ Hid (SR w0 g c Lr wr)) (fun v _ => (intOf v).toNat)
        case atStart => exact ⟨j0, by omega, Nat.le_refl _, rfl, HPT, HSR⟩
        case round =>
          clear HPT HSR
          obtain ⟨k2, hkn, hkb, rfl, HPT, HSR⟩ := hrel
          by_cases hng : i2 ≤ k2
          · have hkn2 : k2 < n := by have := HPT.out.jb; omega
            have hd : decide ((i2 : Int) ≤ (k2 : Int)) = true := decide_eq_true (by omega)
            have hdr := HSR.out.drew
            have hil : a < Lr.length := by rw [HLL.out]; omega
            have hjl : k2 < Lr.length := by rw [HLL.out]; omega
            have EN := cmp_class (w0 := w0) (g := g) (c := c) (L := Lr) HC.out hne HS.out.1 HS.out.2 Lr[a]! Lr[k2]! (HOK.out _ (mem_at hil)) (HOK.out _ (mem_at hjl))
            have f0 : ∀ x : WIn (SR w0 g c Lr), x.w.cell? ⟨g, a * 3, none⟩ = some (.int .i64 Lr[a]!.id) := fun x => (x.h.at_ hil).1
            have f1 : ∀ x : WIn (SR w0 g c Lr), x.w.cell? ⟨g, a * 3 + 1, none⟩ = some (.int .i64 Lr[a]!.base) := fun x => (x.h.at_ hil).2.1
            have f2 : ∀ x : WIn (SR w0 g c Lr), x.w.cell? ⟨g, a * 3 + 2, none⟩ = some (.int .i64 Lr[a]!.since) := fun x => (x.h.at_ hil).2.2
            have p0 : ∀ x : WIn (SR w0 g c Lr), x.w.cell? ⟨g, k2 * 3, none⟩ = some (.int .i64 Lr[k2]!.id) := fun x => (x.h.at_ hjl).1
            have p1 : ∀ x : WIn (SR w0 g c Lr), x.w.cell? ⟨g, k2 * 3 + 1, none⟩ = some (.int .i64 Lr[k2]!.base) := fun x => (x.h.at_ hjl).2.1
            have p2 : ∀ x : WIn (SR w0 g c Lr), x.w.cell? ⟨g, k2 * 3 + 2, none⟩ = some (.int .i64 Lr[k2]!.since) := fun x => (x.h.at_ hjl).2.2
            haveI hNE : Nonempty (WIn (SR w0 g c Lr)) := ⟨⟨_, hdr⟩⟩
            have HAH := Lib.hid (cmpL_ah s Lr[a]! Lr[k2]!)
            obtain ⟨x, hx⟩ : ∃ x, x = Lr[a]! := ⟨_, rfl⟩
            obtain ⟨y, hy⟩ : ∃ y, y = Lr[k2]! := ⟨_, rfl⟩
            have HX := Lib.hid hx
            have HY := Lib.hid hy
            rw [← hx, ← hy] at EN HAH
            rw [← hx] at f0 f1 f2
            rw [← hy] at p0 p1 p2
            clear hx hy hil hjl
            obtain ⟨xi, xb, xs⟩ := x
            obtain ⟨yi, yb, ys⟩ := y
            simp only at f0 f1 f2 p0 p1 p2
            generalize cmpL s ⟨xi, xb, xs⟩ ⟨yi, yb, ys⟩ = cc at *
            have hj0 : (0 : Int) ≤ (a : Int) := Int.natCast_nonneg _
            have hj1 : (a : Int) < (n : Int) := by omega
            have hp0 : (0 : Int) ≤ (k2 : Int) := Int.natCast_nonneg _
            have hp1 : (k2 : Int) < (n : Int) := by omega
            go_upto_region 5 with fail
            go_cut [65] from 50 to 67 (fun t wx => t = .bool (ahB s Lr[a]! Lr[k2]!) ∧ Hid (SR w0 g c Lr wx))
            case first =>
              refine wp_region_class (SR w0 g c Lr) (by kernel_rfl) (by kernel_rfl) hdr ?_
              repeat (go_big_quiet_step (exact EN _))
              refine wpQuiet_nil ?_
              rintro _ ⟨⟨wq, hwq⟩, rfl⟩
              go_wp2_with fail
              go_meet
              exact ⟨by rw [HAH.out, HX.out, HY.out], Lib.hid hwq⟩
            case rest =>
              obtain ⟨rfl, HSR2⟩ := hcut
              obtain ⟨w5, hwc⟩ : ∃ w5, w5 = wc := ⟨_, rfl⟩
              rw [← hwc] at HSR2 ⊢
              clear hwc f0 f1 f2 p0 p1 p2 EN hdr HSR HAH HX HY hj0 hj1 hp0 hp1 hNE
              have HSR := HSR2
              clear HSR2
              cases hcc : ahB s Lr[a]! Lr[k2]! with
              | true =>
                obtain ⟨k3, hk3⟩ : ∃ k3, k2 = k3 + 1 := ⟨k2 - 1, by have := HPT.out.ai; omega⟩
                have hk4 : (k2 : Int) - 1 = (k3 : Int) := by omega
                have HPT3 : Hid (Pt (Fe s) V L Lr a b i2 k3) := Lib.hid (HPT.out.down hng hk3 (congrArg (! ·) hcc))
                have hk5 : k3 ≤ n := by omega
                have hk6 : k3 ≤ j0 := by omega
                have hme : k3 < k2 := by omega
                clear hk3
                go_wp2_with fail
                go_roundw
                case rel => exact ⟨k3, hk5, hk6, rfl, HPT3, HSR⟩
                case measure => simp [intOf]; exact hme
              | false =>
                have HEND : Hid (Pt (Fe s) V L Lr a b i2 k2 ∧ (¬ i2 ≤ k2 ∨ (Fe s) Lr[k2]! Lr[a]! = true)) := Lib.hid ⟨HPT.out, .inr (congrArg (! ·) hcc)⟩
                go_wp2_with fail
                go_meet
                exact ⟨k2, rfl, hkn, hkb, HEND, HSR⟩

          · have hd : decide ((i2 : Int) ≤ (k2 : Int)) = false := decide_eq_false (by omega)
            have hdr := HSR.out.drew
            haveI hNE : Nonempty (WIn (SR w0 g c Lr)) := ⟨⟨_, hdr⟩⟩
            go_upto_region 5 with fail
            go_cut [65] from 50 to 67 (fun t wx => t = .bool false ∧ Hid (SR w0 g c Lr wx))
            case first =>
              refine wp_region_class (SR w0 g c Lr) (by kernel_rfl) (by kernel_rfl) hdr ?_
              repeat (go_big_quiet_step (fail))
              refine wpQuiet_nil ?_
              rintro _ ⟨⟨wq, hwq⟩, rfl⟩
              go_wp2_with fail
              go_meet
              exact ⟨rfl, Lib.hid hwq⟩
            case rest =>
              obtain ⟨rfl, HSR2⟩ := hcut
              obtain ⟨w5, hwc⟩ : ∃ w5, w5 = wc := ⟨_, rfl⟩
              rw [← hwc] at HSR2 ⊢
              clear hwc hdr HSR hNE
              have HSR := HSR2
              clear HSR2
              have HEND : Hid (Pt (Fe s) V L Lr a b i2 k2 ∧ (¬ i2 ≤ k2 ∨ (Fe s) Lr[k2]! Lr[a]! = true)) := Lib.hid ⟨HPT.out, .inl hng⟩
              go_wp2_with fail
              go_meet
              exact ⟨k2, rfl, hkn, hkb, HEND, HSR⟩
      case rest =>
        obtain ⟨j2, rfl, hj2, hj2b, HFj2, HSR2⟩ := hcut
        have HPT : Hid (Pt (Fe s) V L Lr a b i2 j2) := Lib.hid HFj2.out.1
        have HSR := HSR2
        clear HSR2
        obtain ⟨w6, hw6⟩ : ∃ w6, w6 = wc := ⟨_, rfl⟩
        rw [← hw6] at HSR ⊢
        clear hw6
        by_cases hng : i2 ≤ j2
        · have hgt : ¬ (i2 : Int) > (j2 : Int) := by omega
          have HPJ := Lib.hid (And.intro (HFi2.out.2.resolve_left (fun h => h (by omega))) (HFj2.out.2.resolve_left (fun h => h hng)))
          obtain ⟨k9, hk9⟩ : ∃ k9, j2 = k9 + 1 := ⟨j2 - 1, by have := HPT.out.ai; omega⟩
          have hk8 : (j2 : Int) - 1 = (k9 : Int) := by omega
          obtain ⟨i9, hi9⟩ : ∃ i9, i9 = i2 + 1 := ⟨_, rfl⟩
          have hi8 : (i2 : Int) + 1 = (i9 : Int) := by omega
          have hj2n : j2 < n := by have := HPT.out.jb; omega
          have hi2n : i2 < n := by omega
          have HNE : Hid (i2 ≠ j2) := Lib.hid (fun e => by have := HPJ.out; rw [e] at this; rw [this.1] at this; cases this.2)
          have HPT9 : Hid (Pt (Fe s) V L (sw Lr i2 j2) a b i9 k9) := Lib.hid (by rw [hi9]; exact HPT.out.swp hng hk9 (by rw [HLL.out]; exact hbn) HPJ.out.1 HPJ.out.2)
          have hk9n : k9 ≤ n := by omega
          have hi9n : i9 ≤ n := by omega
          have hme9 : n + 1 - i9 < n + 1 - i0 := by omega
          clear hk9 hi9
          have hmx := mixed
          have hil : i2 < Lr.length := by rw [HLL.out]; omega
          have hjl : j2 < Lr.length := by rw [HLL.out]; omega
          have HSRN := Lib.hid ((HSR.out.swap hil hjl).drew)
          obtain ⟨⟨x0, x1, x2⟩, fx0, fx1, fx2⟩ := row_at HSR.out.r hil rfl
          obtain ⟨⟨y0, y1, y2⟩, fy0, fy1, fy2⟩ := row_at HSR.out.r hjl rfl
          obtain ⟨x, hx⟩ : ∃ x, x = Lr[i2]! := ⟨_, rfl⟩
          obtain ⟨y, hy⟩ : ∃ y, y = Lr[j2]! := ⟨_, rfl⟩
          rw [← hx] at x0 x1 x2
          rw [← hy] at y0 y1 y2
          rw [← hx, ← hy] at HSRN
          clear hx hy
          obtain ⟨xi, xb, xs⟩ := x
          obtain ⟨yi, yb, ys⟩ := y
          simp only at x0 x1 x2 y0 y1 y2
          have hj0 : (0 : Int) ≤ (i2 : Int) := Int.natCast_nonneg _
          have hj1 : (i2 : Int) < (n : Int) := by omega
          have hp0 : (0 : Int) ≤ (j2 : Int) := Int.natCast_nonneg _
          have hp1 : (j2 : Int) < (n : Int) := by omega
          have hgl := HSR.out.lt
          have n00 : ¬ i2 * 3 = j2 * 3 := by have := HNE.out; omega
          have m00 : ¬ j2 * 3 = i2 * 3 := by have := HNE.out; omega
          have n01 : ¬ i2 * 3 = j2 * 3 + 1 := by have := HNE.out; omega
          have m01 : ¬ j2 * 3 + 1 = i2 * 3 := by have := HNE.out; omega
          have n02 : ¬ i2 * 3 = j2 * 3 + 2 := by have := HNE.out; omega
          have m02 : ¬ j2 * 3 + 2 = i2 * 3 := by have := HNE.out; omega
          have n10 : ¬ i2 * 3 + 1 = j2 * 3 := by have := HNE.out; omega
          have m10 : ¬ j2 * 3 = i2 * 3 + 1 := by have := HNE.out; omega
          have n11 : ¬ i2 * 3 + 1 = j2 * 3 + 1 := by have := HNE.out; omega
          have m11 : ¬ j2 * 3 + 1 = i2 * 3 + 1 := by have := HNE.out; omega
          have n12 : ¬ i2 * 3 + 1 = j2 * 3 + 2 := by have := HNE.out; omega
          have m12 : ¬ j2 * 3 + 2 = i2 * 3 + 1 := by have := HNE.out; omega
          have n20 : ¬ i2 * 3 + 2 = j2 * 3 := by have := HNE.out; omega
          have m20 : ¬ j2 * 3 = i2 * 3 + 2 := by have := HNE.out; omega
          have n21 : ¬ i2 * 3 + 2 = j2 * 3 + 1 := by have := HNE.out; omega
          have m21 : ¬ j2 * 3 + 1 = i2 * 3 + 2 := by have := HNE.out; omega
          have n22 : ¬ i2 * 3 + 2 = j2 * 3 + 2 := by have := HNE.out; omega
          have m22 : ¬ j2 * 3 + 2 = i2 * 3 + 2 := by have := HNE.out; omega
          clear hil hjl
          go_upto_region 8 with fail
          have dx0 : w6.drew.cell? ⟨g, i2 * 3, none⟩ = some (.int .i64 xi) := x0
          have dxf0 : w6.drew.frozen? ⟨g, i2 * 3, none⟩ = false := fx0
          have dx1 : w6.drew.cell? ⟨g, i2 * 3 + 1, none⟩ = some (.int .i64 xb) := x1
          have dxf1 : w6.drew.frozen? ⟨g, i2 * 3 + 1, none⟩ = false := fx1
          have dx2 : w6.drew.cell? ⟨g, i2 * 3 + 2, none⟩ = some (.int .i64 xs) := x2
          have dxf2 : w6.drew.frozen? ⟨g, i2 * 3 + 2, none⟩ = false := fx2
          have dy0 : w6.drew.cell? ⟨g, j2 * 3, none⟩ = some (.int .i64 yi) := y0
          have dyf0 : w6.drew.frozen? ⟨g, j2 * 3, none⟩ = false := fy0
          have dy1 : w6.drew.cell? ⟨g, j2 * 3 + 1, none⟩ = some (.int .i64 yb) := y1
          have dyf1 : w6.drew.frozen? ⟨g, j2 * 3 + 1, none⟩ = false := fy1
          have dy2 : w6.drew.cell? ⟨g, j2 * 3 + 2, none⟩ = some (.int .i64 ys) := y2
          have dyf2 : w6.drew.frozen? ⟨g, j2 * 3 + 2, none⟩ = false := fy2
          have hgd : g < w6.drew.heap.size := hgl
          go_big_region_o
          clear n00 n01 n02 n10 n11 n12 n20 n21 n22 m00 m01 m02 m10 m11 m12 m20 m21 m22 x0 x1 x2 y0 y1 y2 fx0 fx1 fx2 fy0 fy1 fy2 dx0 dx1 dx2 dy0 dy1 dy2 dxf0 dxf1 dxf2 dyf0 dyf1 dyf2 hgl hgd hj0 hj1 hp0 hp1 HSR
          have HSR : Hid (SR w0 g c (sw Lr i2 j2) (put3 (put3 w6 g (i2 * 3) ⟨yi, yb, ys⟩) g (j2 * 3) ⟨xi, xb, xs⟩).drew) := HSRN
          have HLL2 : Hid ((sw Lr i2 j2).length = n) := Lib.hid (by rw [sw_len]; exact HLL.out)
          clear HSRN hmx

          go_wp2_with fail
          go_roundw
          case rel => exact ⟨i9, k9, _, hi9n, hk9n, rfl, rfl, HPT9, HSR⟩
          case measure => simp [intOf]; exact hme9
        · have hgt : (i2 : Int) > (j2 : Int) := by omega
          have hj2n : j2 < n := by have := HPT.out.jb; omega
          have HF : Hid (i2 = j2 + 1) := Lib.hid (by have := HPT.out.ij; omega)
          go_wp2_with fail
          go_ret
          exact ⟨i2, Lr, rfl, HPT.out.ai, by have := HPT.out.jb; have := HF.out; omega, HPT.out.w, HPT.out.pv.trans HV.out, HPT.out.lo, fun q h1 h2 => HPT.out.hi q (by have := HF.out; omega) h2, HSR.out⟩
end Go.Proofs.Ytcipgjelbnmdiaa.HP
