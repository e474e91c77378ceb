/-
  slices.breakPatternsCmpFunc at items.
-/
import Derived.Test.YtcipgjelbnmdiaaHqH
namespace Go.Proofs.Ytcipgjelbnmdiaa.HP
open Go.RowKit Go.Shelf Go.Proofs.Ytcipgjelbnmdiaa.B
attribute [local go_sem] Oper.semAt_some

/-- A row, and a number of one's own for the lots. -/
structure BX (w0 : World) (g c : Nat) (L : List It) (rb : Nat) (w : World) : Prop where
  r : SR w0 g c L w
  h0 : w0.heap.size ≤ rb
  hg : rb ≠ g
  b : ∃ X : Nat, X < 18446744073709551616 ∧ w.heap[rb]? = some (.cells #[.int .u64 (X : Int)] 139 (0, 0))
theorem BX.drew {w0 w : World} {g c rb : Nat} {L : List It} (h : BX w0 g c L rb w) : BX w0 g c L rb w.drew := ⟨h.r.drew, h.h0, h.hg, h.b⟩
theorem BX.drewN {w0 w : World} {g c rb : Nat} {L : List It} (h : BX w0 g c L rb w) : ∀ k, BX w0 g c L rb (w.drewN k)
  | 0 => h
  | k + 1 => (BX.drewN h k).drew
theorem BX.set {w0 w : World} {g c rb : Nat} {L : List It} (h : BX w0 g c L rb w) (Y : Nat) (hY : Y < 18446744073709551616) : BX w0 g c L rb (w.setCell ⟨rb, 0, none⟩ (.int .u64 (Y : Int))) := by
  obtain ⟨X, _, hb⟩ := h.b
  refine ⟨⟨h.r.k.setCell ⟨rb, 0, none⟩ (.inr h.h0) _, own_keep' h.r.r (blk_other (Ne.symm h.hg))⟩, h.h0, h.hg, Y, hY, ?_⟩
  rw [blk_set hb]
  rfl
theorem BX.swap {w0 w : World} {g c rb i j : Nat} {L L' : List It} {x y : It} (h : BX w0 g c L rb w) (hs : SR w0 g c L' (put3 (put3 w g i x) g j y).drew) : BX w0 g c L' rb (put3 (put3 w g i x) g j y).drew := by
  obtain ⟨X, hX, hb⟩ := h.b
  have e : ∀ W : World, W.drew.heap[rb]? = W.heap[rb]? := fun _ => rfl
  have e1 := put3_other (w := w) (g := g) (k := i) (q := rb) (x := x) h.hg
  have e2 := put3_other (w := put3 w g i x) (g := g) (k := j) (q := rb) (x := y) h.hg
  have e3 : (put3 (put3 w g i x) g j y).drew.heap[rb]? = some (.cells #[.int .u64 (X : Int)] 139 (0, 0)) := by
    rw [e]
    exact e2.trans (e1.trans hb)
  exact ⟨hs, h.h0, h.hg, X, hX, e3⟩
set_option maxRecDepth 100000 in
set_option maxHeartbeats 8000000 in
theorem bp_any (w0 w : World) (g c hh n : Nat) (s : Int) (L : List It) (h : SR w0 g c L w) (hn : L.length = n) (hok : ∀ x ∈ L, OkI x) (_hc : w0.cell? ⟨hh, 0, none⟩ = some (.int .i64 s)) (_hne : hh ≠ g) (_h1 : 1 ≤ s) (_h2 : s ≤ 1048576) (hl : n ≤ 100000) (a b : Nat) (hab : a + 12 < b) (hbn : b ≤ n) :
    Calls Try.prog 76 #[.slice (some ⟨g, 0, none⟩) n c, .int .i64 (a : Int), .int .i64 (b : Int), fv hh] w fun e w' => e = .returned (.tuple #[]) ∧ ∃ L', Sw a b L L' ∧ SR w0 g c L' w' := by
  obtain ⟨rb, hrb⟩ : ∃ rb, rb = w.heap.size := ⟨_, rfl⟩
  have hgl := h.lt
  obtain ⟨l, hll⟩ : ∃ l, l = b - a := ⟨_, rfl⟩
  obtain ⟨q, hqq⟩ : ∃ q, q = l / 4 := ⟨_, rfl⟩
  obtain ⟨q2, hq2⟩ : ∃ q2, q2 = q * 2 := ⟨_, rfl⟩
  obtain ⟨t, ht⟩ : ∃ t, t = a + q2 := ⟨_, rfl⟩
  obtain ⟨i0, hi0⟩ : ∃ i0, t = i0 + 1 := ⟨t - 1, by omega⟩
  have e0 : (b : Int) - (a : Int) = (l : Int) := by omega
  have e1 : (l : Int).tdiv 4 = (q : Int) := by rw [Int.tdiv_eq_ediv_of_nonneg (by omega)]; omega
  have e2 : (q : Int) * 2 = (q2 : Int) := by omega
  have e3 : (a : Int) + (q2 : Int) = (t : Int) := by omega
  have e4 : (t : Int) - 1 = (i0 : Int) := by omega
  obtain ⟨i2, hi2⟩ : ∃ i2, i2 = t + 1 := ⟨_, rfl⟩
  have e5 : (t : Int) + 1 = (i2 : Int) := by omega
  have hge8 : (l : Int) ≥ 8 := by omega
  have hln : l ≤ 100000 := by omega
  have hl1 : 1 ≤ l := by omega
  have HI : Hid (a ≤ i0 ∧ i2 = i0 + 2 ∧ i2 < b ∧ l = b - a) := Lib.hid (by omega)
  have hq5 : q ≤ 100000 := by omega
  have hq6 : q2 ≤ 100000 := by omega
  have hq7 : t ≤ 100000 := by omega
  have hq8 : i0 ≤ i2 + 1 := by omega
  have hq9 : i2 < n := by omega
  have hlw : (l : Int).emod 18446744073709551616 = (l : Int) := Int.emod_eq_of_lt (by omega) (by omega)
  have wr : IntKind.u64.wrap (l : Int) = l := by rw [IntKind.wrap_u64]; exact hlw
  have HBX0 : Hid (BX w0 g c L rb (w.alloc (.cells #[.int .u64 (l : Int)] 139))) := Lib.hid ⟨h.call ((Below.refl _ _).alloc (Nat.le_refl _) _), by rw [hrb]; exact h.k.size, by omega, l, by omega, by rw [hrb]; exact heap_new w _⟩
  have HRB := Lib.hid hrb
  obtain ⟨W1, hW1⟩ : ∃ W1, W1 = w.alloc (.cells #[.int .u64 (l : Int)] 139) := ⟨_, rfl⟩
  rw [← hW1] at HBX0
  have CN := Lib.hid (np_any l hl1 hln W1)
  have HW1 := Lib.hid hW1
  have HOKL := Lib.hid hok
  have HLN := Lib.hid hn
  clear h hok _hc _hne _h1 _h2 hn hrb hgl hi2 hi0 ht hq2 hqq hll hlw hW1
  have hmx := mixed
  go_enter Try.func76, Try.ntmps76
  go_upto_region 3 with fail
  rw [← HW1.out, ← HRB.out]
  clear HW1 HRB hmx
  go_wp2_with fail
  refine CN.out.mono ?_
  rintro e W2 ⟨M, hM1, hM2, rfl, rfl⟩
  obtain ⟨m, hm⟩ : ∃ m, M = m + 1 := ⟨M - 1, by omega⟩
  have hm2 : (M : Int) - 1 = (m : Int) := by omega
  have hmw : IntKind.u64.wrap (m : Int) = (m : Int) := by rw [IntKind.wrap_u64]; exact Int.emod_eq_of_lt (by omega) (by omega)
  have HM : Hid (m < 2 * l) := Lib.hid (by omega)
  have hm3 : m < 18446744073709551616 := by omega
  clear hm hM2 hM1 CN wr
  go_wp2_with fail
  go_loopw [11] (fun v wr => ∃ (j : Nat) (Lr : List It), i0 ≤ j ∧ j ≤ i2 + 1 ∧ v = .int .i64 (j : Int) ∧ Hid (Sw a b L Lr) ∧ Hid (BX w0 g c Lr rb wr)) (fun v _ => i2 + 2 - (intOf v).toNat)
  case atStart => exact ⟨i0, L, Nat.le_refl _, hq8, rfl, Lib.hid (.refl _), HBX0⟩
  case round =>
    clear HBX0
    obtain ⟨j, Lr, hij, hj2, rfl, HSW, HBX⟩ := hrel
    have HLL : Hid (Lr.length = n) := Lib.hid (HSW.out.len.trans HLN.out)
    by_cases hji : j ≤ i2
    · have hji2 : (j : Int) ≤ (i2 : Int) := by omega
      have hjn : j < n := by omega
      obtain ⟨j3, hj3⟩ : ∃ j3, j3 = j + 1 := ⟨_, rfl⟩
      have hj4 : (j : Int) + 1 = (j3 : Int) := by omega
      have hj5 : i0 ≤ j3 := by omega
      have hj6 : j3 ≤ i2 + 1 := by omega
      have hme : i2 + 2 - j3 < i2 + 2 - j := by omega
      clear hj3
      obtain ⟨X, hX, hb⟩ := HBX.out.b
      have CX := Lib.hid (xn_any wr rb X hX (cell_blk (i := 0) hb rfl) (frozen_blk (i := 0) hb))
      clear hX hb X
      go_upto_region 7 with fail
      go_wp2_with fail
      refine CX.out.mono ?_
      rintro e W3 ⟨Y, hY, rfl, hW3⟩
      have HBX3 : Hid (BX w0 g c Lr rb W3) := Lib.hid (by rw [hW3]; exact (HBX.out.set Y hY).drewN 3)
      clear hW3 CX HBX
      obtain ⟨O, hO⟩ : ∃ O : Nat, O = Y &&& m := ⟨_, rfl⟩
      have lO : O ≤ m := by rw [hO]; exact Nat.and_le_right
      have eAnd : bits .and .u64 (Y : Int) (m : Int) = (O : Int) := by rw [bits_and_u64_nat _ _ hY hm3, hO]
      have hOw : IntKind.i64.wrap (O : Int) = (O : Int) := by rw [IntKind.wrap_i64]; have := HM.out; omega
      have hO2 : O < 2 * l := by have := HM.out; omega
      clear hO hY
      go_upto_if 45 with fail
      go_cut [12] from 45 to 48 (fun v wx => ∃ o : Nat, v = .int .i64 (o : Int) ∧ o < l ∧ Hid (BX w0 g c Lr rb wx))
      case first =>
        by_cases hlo : l ≤ O
        · obtain ⟨o, ho⟩ : ∃ o, O = l + o := ⟨O - l, by omega⟩
          have ho2 : (O : Int) - (l : Int) = (o : Int) := by omega
          have ho3 : o < l := by omega
          clear ho
          go_wp2_with fail
          go_meet
          exact ⟨o, rfl, ho3, HBX3⟩
        · go_wp2_with fail
          go_meet
          exact ⟨O, rfl, by omega, HBX3⟩
      case rest =>
        obtain ⟨o, rfl, hol, HBX⟩ := hcut
        obtain ⟨w6, hw6⟩ : ∃ w6, w6 = wc := ⟨_, rfl⟩
        rw [← hw6] at HBX ⊢
        clear hw6 eAnd hOw hO2 HBX3 lO hmw e0 e1 e2 e3 e4 e5 hge8 hq5 hq6 hq7 hq8 hm2 hm3 HM hji2 hl1
        have HSR := Lib.hid HBX.out.r
        obtain ⟨io, hio⟩ : ∃ io, io = a + o := ⟨_, rfl⟩
        have hio2 : (a : Int) + (o : Int) = (io : Int) := by omega
        have hion : io < n := by have := HI.out; omega
        have HIO : Hid (a ≤ j ∧ j < b ∧ a ≤ io ∧ io < b) := Lib.hid (by have := HI.out; omega)
        clear hio hji hij hj2 hol hab hln hq9
        by_cases hjo : j = io
        · subst hjo
          have hmx := mixed
          have hil : j < Lr.length := by rw [HLL.out]; omega
          have HSRN := Lib.hid ((HSR.out.swap hil hil).drew)
          obtain ⟨⟨x0, x1, x2⟩, fx0, fx1, fx2⟩ := row_at HSR.out.r hil rfl
          obtain ⟨x, hx⟩ : ∃ x, x = Lr[j]! := ⟨_, rfl⟩
          rw [← hx] at x0 x1 x2
          rw [← hx] at HSRN
          clear hx
          obtain ⟨xi, xb, xs⟩ := x
          simp only at x0 x1 x2
          have hj0 : (0 : Int) ≤ (j : Int) := Int.natCast_nonneg _
          have hj1 : (j : Int) < (n : Int) := by omega
          have hgl := HSR.out.lt
          clear hil
          go_upto_region 10 with fail
          have dx0 : w6.drew.cell? ⟨g, j * 3, none⟩ = some (.int .i64 xi) := x0
          have dxf0 : w6.drew.frozen? ⟨g, j * 3, none⟩ = false := fx0
          have dx1 : w6.drew.cell? ⟨g, j * 3 + 1, none⟩ = some (.int .i64 xb) := x1
          have dxf1 : w6.drew.frozen? ⟨g, j * 3 + 1, none⟩ = false := fx1
          have dx2 : w6.drew.cell? ⟨g, j * 3 + 2, none⟩ = some (.int .i64 xs) := x2
          have dxf2 : w6.drew.frozen? ⟨g, j * 3 + 2, none⟩ = false := fx2
          have hgd : g < w6.drew.heap.size := hgl
          go_big_region_o
          clear x0 x1 x2 fx0 fx1 fx2 dx0 dx1 dx2 dxf0 dxf1 dxf2 hgl hgd hj0 hj1 HSR
          have HSR : Hid (SR w0 g c (sw Lr j j) (put3 (put3 w6 g (j * 3) ⟨xi, xb, xs⟩) g (j * 3) ⟨xi, xb, xs⟩).drew) := HSRN
          have HLL2 : Hid ((sw Lr j j).length = n) := Lib.hid (by rw [sw_len]; exact HLL.out)
          clear HSRN hmx
          have HBX2 := Lib.hid (HBX.out.swap HSR.out)
          have HSW2 : Hid (Sw a b L (sw Lr j j)) := Lib.hid (.step HSW.out (by have := HIO.out; omega) (by have := HIO.out; omega) (by rw [HLL.out]; exact hbn))
          clear HSR
          go_wp2_with fail
          go_roundw
          case rel => exact ⟨j3, _, hj5, hj6, rfl, HSW2, HBX2⟩
          case measure => simp [intOf]; exact hme
        · have HNE : Hid (j ≠ io) := Lib.hid hjo
          clear hjo
          have hmx := mixed
          have hil : j < Lr.length := by rw [HLL.out]; omega
          have hjl : io < Lr.length := by rw [HLL.out]; omega
          have HSRN := Lib.hid ((HSR.out.swap hil hjl).drew)
          obtain ⟨⟨x0, x1, x2⟩, fx0, fx1, fx2⟩ := row_at HSR.out.r hil rfl
          obtain ⟨⟨y0, y1, y2⟩, fy0, fy1, fy2⟩ := row_at HSR.out.r hjl rfl
          obtain ⟨x, hx⟩ : ∃ x, x = Lr[j]! := ⟨_, rfl⟩
          obtain ⟨y, hy⟩ : ∃ y, y = Lr[io]! := ⟨_, rfl⟩
          rw [← hx] at x0 x1 x2
          rw [← hy] at y0 y1 y2
          rw [← hx, ← hy] at HSRN
          clear hx hy
          obtain ⟨xi, xb, xs⟩ := x
          obtain ⟨yi, yb, ys⟩ := y
          simp only at x0 x1 x2 y0 y1 y2
          have hj0 : (0 : Int) ≤ (j : Int) := Int.natCast_nonneg _
          have hj1 : (j : Int) < (n : Int) := by omega
          have hp0 : (0 : Int) ≤ (io : Int) := Int.natCast_nonneg _
          have hp1 : (io : Int) < (n : Int) := by omega
          have hgl := HSR.out.lt
          have n00 : ¬ j * 3 = io * 3 := by have := HNE.out; omega
          have m00 : ¬ io * 3 = j * 3 := by have := HNE.out; omega
          have n01 : ¬ j * 3 = io * 3 + 1 := by have := HNE.out; omega
          have m01 : ¬ io * 3 + 1 = j * 3 := by have := HNE.out; omega
          have n02 : ¬ j * 3 = io * 3 + 2 := by have := HNE.out; omega
          have m02 : ¬ io * 3 + 2 = j * 3 := by have := HNE.out; omega
          have n10 : ¬ j * 3 + 1 = io * 3 := by have := HNE.out; omega
          have m10 : ¬ io * 3 = j * 3 + 1 := by have := HNE.out; omega
          have n11 : ¬ j * 3 + 1 = io * 3 + 1 := by have := HNE.out; omega
          have m11 : ¬ io * 3 + 1 = j * 3 + 1 := by have := HNE.out; omega
          have n12 : ¬ j * 3 + 1 = io * 3 + 2 := by have := HNE.out; omega
          have m12 : ¬ io * 3 + 2 = j * 3 + 1 := by have := HNE.out; omega
          have n20 : ¬ j * 3 + 2 = io * 3 := by have := HNE.out; omega
          have m20 : ¬ io * 3 = j * 3 + 2 := by have := HNE.out; omega
          have n21 : ¬ j * 3 + 2 = io * 3 + 1 := by have := HNE.out; omega
          have m21 : ¬ io * 3 + 1 = j * 3 + 2 := by have := HNE.out; omega
          have n22 : ¬ j * 3 + 2 = io * 3 + 2 := by have := HNE.out; omega
          have m22 : ¬ io * 3 + 2 = j * 3 + 2 := by have := HNE.out; omega
          clear hil hjl
          go_upto_region 10 with fail
          have dx0 : w6.drew.cell? ⟨g, j * 3, none⟩ = some (.int .i64 xi) := x0
          have dxf0 : w6.drew.frozen? ⟨g, j * 3, none⟩ = false := fx0
          have dx1 : w6.drew.cell? ⟨g, j * 3 + 1, none⟩ = some (.int .i64 xb) := x1
          have dxf1 : w6.drew.frozen? ⟨g, j * 3 + 1, none⟩ = false := fx1
          have dx2 : w6.drew.cell? ⟨g, j * 3 + 2, none⟩ = some (.int .i64 xs) := x2
          have dxf2 : w6.drew.frozen? ⟨g, j * 3 + 2, none⟩ = false := fx2
          have dy0 : w6.drew.cell? ⟨g, io * 3, none⟩ = some (.int .i64 yi) := y0
          have dyf0 : w6.drew.frozen? ⟨g, io * 3, none⟩ = false := fy0
          have dy1 : w6.drew.cell? ⟨g, io * 3 + 1, none⟩ = some (.int .i64 yb) := y1
          have dyf1 : w6.drew.frozen? ⟨g, io * 3 + 1, none⟩ = false := fy1
          have dy2 : w6.drew.cell? ⟨g, io * 3 + 2, none⟩ = some (.int .i64 ys) := y2
          have dyf2 : w6.drew.frozen? ⟨g, io * 3 + 2, none⟩ = false := fy2
          have hgd : g < w6.drew.heap.size := hgl
          go_big_region_o
          clear n00 n01 n02 n10 n11 n12 n20 n21 n22 m00 m01 m02 m10 m11 m12 m20 m21 m22 x0 x1 x2 y0 y1 y2 fx0 fx1 fx2 fy0 fy1 fy2 dx0 dx1 dx2 dy0 dy1 dy2 dxf0 dxf1 dxf2 dyf0 dyf1 dyf2 hgl hgd hj0 hj1 hp0 hp1 HSR
          have HSR : Hid (SR w0 g c (sw Lr j io) (put3 (put3 w6 g (j * 3) ⟨yi, yb, ys⟩) g (io * 3) ⟨xi, xb, xs⟩).drew) := HSRN
          have HLL2 : Hid ((sw Lr j io).length = n) := Lib.hid (by rw [sw_len]; exact HLL.out)
          clear HSRN hmx
          have HBX2 := Lib.hid (HBX.out.swap HSR.out)
          have HSW2 : Hid (Sw a b L (sw Lr j io)) := Lib.hid (.step HSW.out (by have := HIO.out; omega) (by have := HIO.out; omega) (by rw [HLL.out]; exact hbn))
          clear HSR
          go_wp2_with fail
          go_roundw
          case rel => exact ⟨j3, _, hj5, hj6, rfl, HSW2, HBX2⟩
          case measure => simp [intOf]; exact hme
    · have hji2 : ¬ (j : Int) ≤ (i2 : Int) := by omega
      go_wp2_with fail
      go_end0
      exact ⟨rfl, Lr, HSW.out, HBX.out.r⟩
end Go.Proofs.Ytcipgjelbnmdiaa.HP
