/-
  slices.partialInsertionSortCmpFunc at items.
-/
import Derived.Test.YtcipgjelbnmdiaaHqD
import Derived.Deep.CutBlock
namespace Go.Proofs.Ytcipgjelbnmdiaa.HP
open Go.RowKit Go.Shelf Go.Proofs.Ytcipgjelbnmdiaa.B
attribute [local go_sem] Oper.semAt_some

/-- What stands ahead of a part is not behind any of it. -/
def Pd (s : Int) (L : List It) (a b : Nat) : Prop := 0 < a → ∀ q, a ≤ q → q < b → le s L[a - 1]! L[q]!
theorem Pd.sw {s : Int} {L L' : List It} {a b : Nat} (h : Pd s L a b) (hs : Sw a b L L') : Pd s L' a b := fun h0 q h1 h2 => by
  obtain ⟨m, m1, m2, m3⟩ := hs.inn q h1 h2
  rw [m3, hs.out (a - 1) (by omega)]
  exact h h0 m m1 m2
theorem So.snoc {s : Int} {L : List It} {a i ip : Nat} (h : So s L a i) (hi : i = ip + 1) (hc : ahB s L[i]! L[ip]! = false) : So s L a (i + 1) := fun p q h1 h2 h3 => by
  by_cases e : q = i
  · rw [e]
    by_cases e2 : p = ip
    · rw [e2]; exact hc
    · exact le_trans (h p ip h1 (by omega) (by omega)) hc
  · exact h p q h1 h2 (by omega)
theorem So.other {s : Int} {L : List It} {a i x y : Nat} (h : So s L a i) (hx : i ≤ x) (hy : i ≤ y) (hxl : x < L.length) (hyl : y < L.length) : So s (sw L x y) a i := fun p q h1 h2 h3 => by
  rw [sw_at hxl hyl, sw_at hxl hyl, if_neg (by omega), if_neg (by omega), if_neg (by omega), if_neg (by omega)]
  exact h p q h1 h2 h3
/-- What the partial sort leaves. -/
def PIp {α : Type} (V : Bool → α) (w0 : World) (g c : Nat) (s : Int) (L : List It) (a b : Nat) (e : α) (w' : World) : Prop := ∃ (t : Bool) (L' : List It), e = V t ∧ Sw a b L L' ∧ (t = true → So s L' a b) ∧ SR w0 g c L' w'
theorem So.less {s : Int} {L : List It} {a i j : Nat} (h : So s L a i) (hj : j ≤ i) : So s L a j := fun p q h1 h2 h3 => h p q h1 h2 (by omega)
set_option maxRecDepth 100000 in
set_option maxHeartbeats 16000000 in
theorem pi_any (w0 w : World) (g c hh n : Nat) (s : Int) (L : List It) (h : SR w0 g c L w) (hn : L.length = n) (hok : ∀ x ∈ L, OkI x) (hc : w0.cell? ⟨hh, 0, none⟩ = some (.int .i64 s)) (hne : hh ≠ g) (h1 : 1 ≤ s) (h2 : s ≤ 1048576) (hl : n ≤ 100000) (a b : Nat) (hab : a < b) (hbn : b ≤ n) (hpd : Pd s L a b) :
    Calls Try.prog 79 #[.slice (some ⟨g, 0, none⟩) n c, .int .i64 (a : Int), .int .i64 (b : Int), fv hh] w fun e w' => PIp (fun t => .returned (.bool t)) w0 g c s L a b e w' := by
  have HOK0 := Lib.hid hok
  have HC := Lib.hid hc
  have HS := Lib.hid (And.intro h1 h2)
  have H0 := Lib.hid h
  have HN0 := Lib.hid hn
  clear hok hc h1 h2 h hn
  have HOKL := HOK0
  have HLN := HN0
  have HPD := Lib.hid hpd
  clear hpd HOK0 HN0
  obtain ⟨l, hll⟩ : ∃ l, l = b - a := ⟨_, rfl⟩
  have hll2 : (b : Int) - (a : Int) = (l : Int) := by omega
  clear hll
  obtain ⟨a1, ha1⟩ : ∃ a1, a1 = a + 1 := ⟨_, rfl⟩
  have ha2 : (a : Int) + 1 = (a1 : Int) := by omega
  have ha3 : a < a1 := by omega
  have ha4 : a1 ≤ b := by omega
  have HSO : Hid (So s L a a1) := Lib.hid (fun p q h1 h2 h3 => by omega)
  clear ha1
  go_enter Try.func79, Try.ntmps79
  go_wp2_with fail
  go_loopw [9, 10] (fun v u wr => ∃ (i0 k : Nat) (Lr : List It), a < i0 ∧ i0 ≤ b ∧ k ≤ 5 ∧ v = .int .i64 (i0 : Int) ∧ u = .int .i64 (k : Int) ∧ Hid (Sw a b L Lr) ∧ Hid (So s Lr a i0) ∧ Hid (SR w0 g c Lr wr)) (fun _ u _ => 5 - (intOf u).toNat)
  case atStart => exact ⟨a1, 0, L, ha3, ha4, by omega, rfl, rfl, Lib.hid (.refl _), HSO, H0⟩
  case round =>
    clear H0 HSO
    obtain ⟨i0, k, Lr, hai, hib, hk, rfl, rfl, HSW, HSO, HSR⟩ := hrel
    have HLL : Hid (Lr.length = n) := Lib.hid (HSW.out.len.trans HLN.out)
    have HOK : Hid (∀ x ∈ Lr, OkI x) := Lib.hid (fun x hx => HOKL.out x (HSW.out.perm.mem_iff.1 hx))
    by_cases hk5 : k < 5
    · have hk6 : (k : Int) < 5 := by omega
      obtain ⟨k3, hk3e⟩ : ∃ k3, k3 = k + 1 := ⟨_, rfl⟩
      have hk4 : (k : Int) + 1 = (k3 : Int) := by omega
      have hk3 : k3 ≤ 5 := by omega
      have hmek : 5 - k3 < 5 - k := by omega
      clear hk3e
      go_upto_block 2 with fail
      go_cut [9] from 15 to 38 (fun v wx => ∃ i2 : Nat, v = .int .i64 (i2 : Int) ∧ a < i2 ∧ i2 ≤ b ∧ Hid (So s Lr a i2 ∧ (i2 = b ∨ ahB s Lr[i2]! Lr[i2 - 1]! = true)) ∧ Hid (SR w0 g c Lr wx))
      case first =>
        go_wp2_with fail
        go_loopw [9] (fun v wr => ∃ i2 : Nat, a < i2 ∧ i2 ≤ b ∧ v = .int .i64 (i2 : Int) ∧ Hid (So s Lr a i2) ∧ Hid (SR w0 g c Lr wr)) (fun v _ => b + 1 - (intOf v).toNat)
        case atStart => exact ⟨i0, hai, hib, rfl, HSO, HSR⟩
        case round =>
          clear HSO HSR
          obtain ⟨i2, hai2, hib2, rfl, HSO, HSR⟩ := hrel
          by_cases hng : i2 < b
          · have hd : decide ((i2 : Int) < (b : Int)) = true := decide_eq_true (by omega)
            obtain ⟨ip, hip⟩ : ∃ ip, i2 = ip + 1 := ⟨i2 - 1, by omega⟩
            have hip2 : (i2 : Int) - 1 = (ip : Int) := by omega
            have hipn : ip < n := by omega
            have hi2n : i2 < n := by omega
            have HIP := Lib.hid hip
            clear hip
            have hdr := HSR.out.drew
            have hil : i2 < Lr.length := by rw [HLL.out]; omega
            have hjl : ip < Lr.length := by rw [HLL.out]; omega
            have EN := cmp_class (w0 := w0) (g := g) (c := c) (L := Lr) HC.out hne HS.out.1 HS.out.2 Lr[i2]! Lr[ip]! (HOK.out _ (mem_at hil)) (HOK.out _ (mem_at hjl))
            have f0 : ∀ x : WIn (SR w0 g c Lr), x.w.cell? ⟨g, i2 * 3, none⟩ = some (.int .i64 Lr[i2]!.id) := fun x => (x.h.at_ hil).1
            have f1 : ∀ x : WIn (SR w0 g c Lr), x.w.cell? ⟨g, i2 * 3 + 1, none⟩ = some (.int .i64 Lr[i2]!.base) := fun x => (x.h.at_ hil).2.1
            have f2 : ∀ x : WIn (SR w0 g c Lr), x.w.cell? ⟨g, i2 * 3 + 2, none⟩ = some (.int .i64 Lr[i2]!.since) := fun x => (x.h.at_ hil).2.2
            have p0 : ∀ x : WIn (SR w0 g c Lr), x.w.cell? ⟨g, ip * 3, none⟩ = some (.int .i64 Lr[ip]!.id) := fun x => (x.h.at_ hjl).1
            have p1 : ∀ x : WIn (SR w0 g c Lr), x.w.cell? ⟨g, ip * 3 + 1, none⟩ = some (.int .i64 Lr[ip]!.base) := fun x => (x.h.at_ hjl).2.1
            have p2 : ∀ x : WIn (SR w0 g c Lr), x.w.cell? ⟨g, ip * 3 + 2, none⟩ = some (.int .i64 Lr[ip]!.since) := fun x => (x.h.at_ hjl).2.2
            haveI hNE : Nonempty (WIn (SR w0 g c Lr)) := ⟨⟨_, hdr⟩⟩
            have HAH := Lib.hid (cmpL_ah s Lr[i2]! Lr[ip]!)
            obtain ⟨x, hx⟩ : ∃ x, x = Lr[i2]! := ⟨_, rfl⟩
            obtain ⟨y, hy⟩ : ∃ y, y = Lr[ip]! := ⟨_, rfl⟩
            have HX := Lib.hid hx
            have HY := Lib.hid hy
            rw [← hx, ← hy] at EN HAH
            rw [← hx] at f0 f1 f2
            rw [← hy] at p0 p1 p2
            clear hx hy hil hjl
            obtain ⟨xi, xb, xs⟩ := x
            obtain ⟨yi, yb, ys⟩ := y
            simp only at f0 f1 f2 p0 p1 p2
            generalize cmpL s ⟨xi, xb, xs⟩ ⟨yi, yb, ys⟩ = cc at *
            have hj0 : (0 : Int) ≤ (i2 : Int) := Int.natCast_nonneg _
            have hj1 : (i2 : Int) < (n : Int) := by omega
            have hp0 : (0 : Int) ≤ (ip : Int) := Int.natCast_nonneg _
            have hp1 : (ip : Int) < (n : Int) := by omega
            go_upto_region 5 with fail
            go_cut [36] from 19 to 38 (fun t wx => t = .bool (!ahB s Lr[i2]! Lr[ip]!) ∧ Hid (SR w0 g c Lr wx))
            case first =>
              refine wp_region_class (SR w0 g c Lr) (by kernel_rfl) (by kernel_rfl) hdr ?_
              repeat (go_big_quiet_step (exact EN _))
              refine wpQuiet_nil ?_
              rintro _ ⟨⟨wq, hwq⟩, rfl⟩
              go_wp2_with fail
              go_meet
              exact ⟨by rw [HAH.out, HX.out, HY.out], Lib.hid hwq⟩
            case rest =>
              obtain ⟨rfl, HSR2⟩ := hcut
              obtain ⟨w5, hwc⟩ : ∃ w5, w5 = wc := ⟨_, rfl⟩
              rw [← hwc] at HSR2 ⊢
              clear hwc f0 f1 f2 p0 p1 p2 EN hdr HSR HAH HX HY hj0 hj1 hp0 hp1 hNE
              have HSR := HSR2
              clear HSR2
              cases hcc : ahB s Lr[i2]! Lr[ip]! with
              | true =>
                have HEND : Hid (So s Lr a i2 ∧ (i2 = b ∨ ahB s Lr[i2]! Lr[i2 - 1]! = true)) := Lib.hid ⟨HSO.out, .inr (by have e : i2 - 1 = ip := (by have := HIP.out; omega); rw [e]; exact hcc)⟩
                go_wp2_with fail
                go_meet
                exact ⟨i2, rfl, hai2, hib2, HEND, HSR⟩
              | false =>
                obtain ⟨i3, hi3⟩ : ∃ i3, i3 = i2 + 1 := ⟨_, rfl⟩
                have hi4 : (i2 : Int) + 1 = (i3 : Int) := by omega
                have HSO3 : Hid (So s Lr a i3) := Lib.hid (by rw [hi3]; exact HSO.out.snoc HIP.out hcc)
                have h5 : a < i3 := by omega
                have h6 : i3 ≤ b := by omega
                have hme : b + 1 - i3 < b + 1 - i2 := by omega
                clear hi3
                go_wp2_with fail
                go_roundw
                case rel => exact ⟨i3, h5, h6, rfl, HSO3, HSR⟩
                case measure => simp [intOf]; exact hme

          · have hd : decide ((i2 : Int) < (b : Int)) = false := decide_eq_false (by omega)
            have hdr := HSR.out.drew
            haveI hNE : Nonempty (WIn (SR w0 g c Lr)) := ⟨⟨_, hdr⟩⟩
            go_upto_region 5 with fail
            go_cut [36] from 19 to 38 (fun t wx => t = .bool false ∧ Hid (SR w0 g c Lr wx))
            case first =>
              refine wp_region_class (SR w0 g c Lr) (by kernel_rfl) (by kernel_rfl) hdr ?_
              repeat (go_big_quiet_step (fail))
              refine wpQuiet_nil ?_
              rintro _ ⟨⟨wq, hwq⟩, rfl⟩
              go_wp2_with fail
              go_meet
              exact ⟨rfl, Lib.hid hwq⟩
            case rest =>
              obtain ⟨rfl, HSR2⟩ := hcut
              obtain ⟨w5, hwc⟩ : ∃ w5, w5 = wc := ⟨_, rfl⟩
              rw [← hwc] at HSR2 ⊢
              clear hwc hdr HSR hNE
              have HSR := HSR2
              clear HSR2
              have HEND : Hid (So s Lr a i2 ∧ (i2 = b ∨ ahB s Lr[i2]! Lr[i2 - 1]! = true)) := Lib.hid ⟨HSO.out, .inl (by omega)⟩
              go_wp2_with fail
              go_meet
              exact ⟨i2, rfl, hai2, hib2, HEND, HSR⟩

      case rest =>
        obtain ⟨i2, rfl, hai2, hib2, HFI, HSR2⟩ := hcut
        have HSR := HSR2
        clear HSR2
        obtain ⟨w6, hwn⟩ : ∃ w6, w6 = wc := ⟨_, rfl⟩
        rw [← hwn] at HSR ⊢
        clear hwn
        by_cases heq : i2 = b
        · have hb0 : ((i2 : Int) == (b : Int)) = true := by rw [heq]; exact beq_self_eq_true _
          have HE : Hid (So s Lr a b) := Lib.hid (by have h9 := HFI.out.1; rw [heq] at h9; exact h9)
          clear heq
          go_wp2_with fail
          go_ret
          exact ⟨true, Lr, rfl, HSW.out, fun _ => HE.out, HSR.out⟩
        · have hb0 : ((i2 : Int) == (b : Int)) = false := by rw [beq_eq_false_iff_ne]; omega
          by_cases h50 : l < 50
          · have h51 : (l : Int) < 50 := by omega
            go_wp2_with fail
            go_ret
            exact ⟨false, Lr, rfl, HSW.out, (fun h => by cases h), HSR.out⟩
          · have h51 : ¬ (l : Int) < 50 := by omega
            obtain ⟨ip, hip⟩ : ∃ ip, i2 = ip + 1 := ⟨i2 - 1, by omega⟩
            have hip2 : (i2 : Int) - 1 = (ip : Int) := by omega
            have hipn : ip < n := by omega
            have hi2n : i2 < n := by omega
            have hi2b : i2 < b := by omega
            have hapi : a ≤ ip := by omega
            have HIP := Lib.hid hip
            have HNE : Hid (i2 ≠ ip) := Lib.hid (by omega)
            clear hip heq
            have HSW1 : Hid (Sw a b L (sw Lr i2 ip)) := Lib.hid (.step HSW.out ⟨by omega, by omega⟩ ⟨by omega, by omega⟩ (by rw [HLL.out]; exact hbn))
            have HSX1 : Hid (Sx s (sw Lr i2 ip) a ip ip) := Lib.hid (Sx.start ((HFI.out.1.less (by have := HIP.out; omega)).other (by have := HIP.out; omega) (Nat.le_refl _) (by rw [HLL.out]; omega) (by rw [HLL.out]; omega)))
            have hmx := mixed
            have hil : i2 < Lr.length := by rw [HLL.out]; omega
            have hjl : ip < Lr.length := by rw [HLL.out]; omega
            have HSRN := Lib.hid ((HSR.out.swap hil hjl).drew)
            obtain ⟨⟨x0, x1, x2⟩, fx0, fx1, fx2⟩ := row_at HSR.out.r hil rfl
            obtain ⟨⟨y0, y1, y2⟩, fy0, fy1, fy2⟩ := row_at HSR.out.r hjl rfl
            obtain ⟨x, hx⟩ : ∃ x, x = Lr[i2]! := ⟨_, rfl⟩
            obtain ⟨y, hy⟩ : ∃ y, y = Lr[ip]! := ⟨_, rfl⟩
            rw [← hx] at x0 x1 x2
            rw [← hy] at y0 y1 y2
            rw [← hx, ← hy] at HSRN
            clear hx hy
            obtain ⟨xi, xb, xs⟩ := x
            obtain ⟨yi, yb, ys⟩ := y
            simp only at x0 x1 x2 y0 y1 y2
            have hj0 : (0 : Int) ≤ (i2 : Int) := Int.natCast_nonneg _
            have hj1 : (i2 : Int) < (n : Int) := by omega
            have hp0 : (0 : Int) ≤ (ip : Int) := Int.natCast_nonneg _
            have hp1 : (ip : Int) < (n : Int) := by omega
            have hgl := HSR.out.lt
            have n00 : ¬ i2 * 3 = ip * 3 := by have := HNE.out; omega
            have m00 : ¬ ip * 3 = i2 * 3 := by have := HNE.out; omega
            have n01 : ¬ i2 * 3 = ip * 3 + 1 := by have := HNE.out; omega
            have m01 : ¬ ip * 3 + 1 = i2 * 3 := by have := HNE.out; omega
            have n02 : ¬ i2 * 3 = ip * 3 + 2 := by have := HNE.out; omega
            have m02 : ¬ ip * 3 + 2 = i2 * 3 := by have := HNE.out; omega
            have n10 : ¬ i2 * 3 + 1 = ip * 3 := by have := HNE.out; omega
            have m10 : ¬ ip * 3 = i2 * 3 + 1 := by have := HNE.out; omega
            have n11 : ¬ i2 * 3 + 1 = ip * 3 + 1 := by have := HNE.out; omega
            have m11 : ¬ ip * 3 + 1 = i2 * 3 + 1 := by have := HNE.out; omega
            have n12 : ¬ i2 * 3 + 1 = ip * 3 + 2 := by have := HNE.out; omega
            have m12 : ¬ ip * 3 + 2 = i2 * 3 + 1 := by have := HNE.out; omega
            have n20 : ¬ i2 * 3 + 2 = ip * 3 := by have := HNE.out; omega
            have m20 : ¬ ip * 3 = i2 * 3 + 2 := by have := HNE.out; omega
            have n21 : ¬ i2 * 3 + 2 = ip * 3 + 1 := by have := HNE.out; omega
            have m21 : ¬ ip * 3 + 1 = i2 * 3 + 2 := by have := HNE.out; omega
            have n22 : ¬ i2 * 3 + 2 = ip * 3 + 2 := by have := HNE.out; omega
            have m22 : ¬ ip * 3 + 2 = i2 * 3 + 2 := by have := HNE.out; omega
            clear hil hjl
            go_upto_region 11 with fail
            have dx0 : w6.drew.cell? ⟨g, i2 * 3, none⟩ = some (.int .i64 xi) := x0
            have dxf0 : w6.drew.frozen? ⟨g, i2 * 3, none⟩ = false := fx0
            have dx1 : w6.drew.cell? ⟨g, i2 * 3 + 1, none⟩ = some (.int .i64 xb) := x1
            have dxf1 : w6.drew.frozen? ⟨g, i2 * 3 + 1, none⟩ = false := fx1
            have dx2 : w6.drew.cell? ⟨g, i2 * 3 + 2, none⟩ = some (.int .i64 xs) := x2
            have dxf2 : w6.drew.frozen? ⟨g, i2 * 3 + 2, none⟩ = false := fx2
            have dy0 : w6.drew.cell? ⟨g, ip * 3, none⟩ = some (.int .i64 yi) := y0
            have dyf0 : w6.drew.frozen? ⟨g, ip * 3, none⟩ = false := fy0
            have dy1 : w6.drew.cell? ⟨g, ip * 3 + 1, none⟩ = some (.int .i64 yb) := y1
            have dyf1 : w6.drew.frozen? ⟨g, ip * 3 + 1, none⟩ = false := fy1
            have dy2 : w6.drew.cell? ⟨g, ip * 3 + 2, none⟩ = some (.int .i64 ys) := y2
            have dyf2 : w6.drew.frozen? ⟨g, ip * 3 + 2, none⟩ = false := fy2
            have hgd : g < w6.drew.heap.size := hgl
            go_big_region_o
            clear n00 n01 n02 n10 n11 n12 n20 n21 n22 m00 m01 m02 m10 m11 m12 m20 m21 m22 x0 x1 x2 y0 y1 y2 fx0 fx1 fx2 fy0 fy1 fy2 dx0 dx1 dx2 dy0 dy1 dy2 dxf0 dxf1 dxf2 dyf0 dyf1 dyf2 hgl hgd hj0 hj1 hp0 hp1 HSR
            have HSR : Hid (SR w0 g c (sw Lr i2 ip) (put3 (put3 w6 g (i2 * 3) ⟨yi, yb, ys⟩) g (ip * 3) ⟨xi, xb, xs⟩).drew) := HSRN
            have HLL2 : Hid ((sw Lr i2 ip).length = n) := Lib.hid (by rw [sw_len]; exact HLL.out)
            clear HSRN hmx

            obtain ⟨d, hd9⟩ : ∃ d, d = i2 - a := ⟨_, rfl⟩
            have hd8 : (i2 : Int) - (a : Int) = (d : Int) := by omega
            go_upto_if 65 with fail
            go_cut [11] from 65 to 101 (fun _ wx => ∃ L2, Hid (Sw a b L L2) ∧ Hid (So s L2 a i2) ∧ Hid (SR w0 g c L2 wx))
            case first =>
              by_cases hge : 2 ≤ d
              · have hge2 : (d : Int) ≥ 2 := by omega
                clear hd9
                go_wp2_with fail
                go_loopw [11] (fun v wr => ∃ (j : Nat) (Lr : List It), a ≤ j ∧ j ≤ ip ∧ v = .int .i64 (j : Int) ∧ Hid (Sw a b L Lr) ∧ Hid (Sx s Lr a j ip) ∧ Hid (SR w0 g c Lr wr)) (fun v _ => (intOf v).toNat)
                case atStart => exact ⟨ip, _, hapi, Nat.le_refl _, rfl, HSW1, HSX1, HSR⟩
                case round =>
                  clear HSW1 HSX1 HSR HLL HLL2 HOK
                  obtain ⟨j, Lr, haj, hji, rfl, HSW, HSX, HSR⟩ := hrel
                  have HLL : Hid (Lr.length = n) := Lib.hid (HSW.out.len.trans HLN.out)
                  have HOK : Hid (∀ x ∈ Lr, OkI x) := Lib.hid (fun x hx => HOKL.out x (HSW.out.perm.mem_iff.1 hx))
                  by_cases hj1 : 1 ≤ j
                  · have hj2 : (j : Int) ≥ 1 := by omega
                    obtain ⟨jp, hjp⟩ : ∃ jp, j = jp + 1 := ⟨j - 1, by omega⟩
                    have hjp2 : (j : Int) - 1 = (jp : Int) := by omega
                    have hjn : j < n := by omega
                    have hjpn : jp < n := by omega
                    have HJP := Lib.hid hjp
                    clear hjp hj1
                    have hdr := HSR.out.drew
                    have hil : j < Lr.length := by rw [HLL.out]; omega
                    have hjl : jp < Lr.length := by rw [HLL.out]; omega
                    have EN := cmp_class (w0 := w0) (g := g) (c := c) (L := Lr) HC.out hne HS.out.1 HS.out.2 Lr[j]! Lr[jp]! (HOK.out _ (mem_at hil)) (HOK.out _ (mem_at hjl))
                    have f0 : ∀ x : WIn (SR w0 g c Lr), x.w.cell? ⟨g, j * 3, none⟩ = some (.int .i64 Lr[j]!.id) := fun x => (x.h.at_ hil).1
                    have f1 : ∀ x : WIn (SR w0 g c Lr), x.w.cell? ⟨g, j * 3 + 1, none⟩ = some (.int .i64 Lr[j]!.base) := fun x => (x.h.at_ hil).2.1
                    have f2 : ∀ x : WIn (SR w0 g c Lr), x.w.cell? ⟨g, j * 3 + 2, none⟩ = some (.int .i64 Lr[j]!.since) := fun x => (x.h.at_ hil).2.2
                    have p0 : ∀ x : WIn (SR w0 g c Lr), x.w.cell? ⟨g, jp * 3, none⟩ = some (.int .i64 Lr[jp]!.id) := fun x => (x.h.at_ hjl).1
                    have p1 : ∀ x : WIn (SR w0 g c Lr), x.w.cell? ⟨g, jp * 3 + 1, none⟩ = some (.int .i64 Lr[jp]!.base) := fun x => (x.h.at_ hjl).2.1
                    have p2 : ∀ x : WIn (SR w0 g c Lr), x.w.cell? ⟨g, jp * 3 + 2, none⟩ = some (.int .i64 Lr[jp]!.since) := fun x => (x.h.at_ hjl).2.2
                    haveI hNE : Nonempty (WIn (SR w0 g c Lr)) := ⟨⟨_, hdr⟩⟩
                    have HAH := Lib.hid (cmpL_ah s Lr[j]! Lr[jp]!)
                    obtain ⟨x, hx⟩ : ∃ x, x = Lr[j]! := ⟨_, rfl⟩
                    obtain ⟨y, hy⟩ : ∃ y, y = Lr[jp]! := ⟨_, rfl⟩
                    have HX := Lib.hid hx
                    have HY := Lib.hid hy
                    rw [← hx, ← hy] at EN HAH
                    rw [← hx] at f0 f1 f2
                    rw [← hy] at p0 p1 p2
                    clear hx hy hil hjl
                    obtain ⟨xi, xb, xs⟩ := x
                    obtain ⟨yi, yb, ys⟩ := y
                    simp only at f0 f1 f2 p0 p1 p2
                    generalize cmpL s ⟨xi, xb, xs⟩ ⟨yi, yb, ys⟩ = cc at *
                    have hj0 : (0 : Int) ≤ (j : Int) := Int.natCast_nonneg _
                    have hj1 : (j : Int) < (n : Int) := by omega
                    have hp0 : (0 : Int) ≤ (jp : Int) := Int.natCast_nonneg _
                    have hp1 : (jp : Int) < (n : Int) := by omega
                    go_upto_region 16 with fail
                    go_cut [84] from 72 to 100 (fun t wx => t = .bool (!ahB s Lr[j]! Lr[jp]!) ∧ Hid (SR w0 g c Lr wx))
                    case first =>
                      refine wp_region_class (SR w0 g c Lr) (by kernel_rfl) (by kernel_rfl) hdr ?_
                      repeat (go_big_quiet_step (exact EN _))
                      refine wpQuiet_nil ?_
                      rintro _ ⟨⟨wq, hwq⟩, rfl⟩
                      go_wp2_with fail
                      go_meet
                      exact ⟨by rw [HAH.out, HX.out, HY.out], Lib.hid hwq⟩
                    case rest =>
                      obtain ⟨rfl, HSR2⟩ := hcut
                      obtain ⟨w5, hwc⟩ : ∃ w5, w5 = wc := ⟨_, rfl⟩
                      rw [← hwc] at HSR2 ⊢
                      clear hwc f0 f1 f2 p0 p1 p2 EN hdr HSR HAH HX HY hj0 hj1 hp0 hp1 hNE
                      have HSR := HSR2
                      clear HSR2
                      cases hcc : ahB s Lr[j]! Lr[jp]! with
                      | true =>
                        have hja : a < j := by
                          rcases Nat.lt_or_ge a j with h | h
                          · exact h
                          · have e : a = j := by omega
                            have e2 : a - 1 = jp := by have := HJP.out; omega
                            have := (HPD.out.sw HSW.out) (by have := HJP.out; omega) a (Nat.le_refl _) (by omega)
                            rw [e2] at this
                            have h9 : ahB s Lr[j]! Lr[jp]! = false := by rw [← e]; exact this
                            rw [h9] at hcc; cases hcc
                        have HNE : Hid (j ≠ jp) := Lib.hid (by have := HJP.out; omega)
                        have HSX3 : Hid (Sx s (sw Lr j jp) a jp ip) := Lib.hid (by
                          have e : j - 1 = jp := by have := HJP.out; omega
                          have h9 := HSX.out.step hja hji (by rw [HLL.out]; omega) (by rw [e]; exact hcc)
                          rw [e] at h9
                          exact h9)
                        have HSW3 : Hid (Sw a b L (sw Lr j jp)) := Lib.hid (.step HSW.out ⟨by omega, by omega⟩ ⟨by have := HJP.out; omega, by omega⟩ (by rw [HLL.out]; exact hbn))
                        have h5 : a ≤ jp := by have := HJP.out; omega
                        have h6 : jp ≤ ip := by omega
                        have hme : jp < j := by have := HJP.out; omega
                        have hmx := mixed
                        have hil : j < Lr.length := by rw [HLL.out]; omega
                        have hjl : jp < Lr.length := by rw [HLL.out]; omega
                        have HSRN := Lib.hid ((HSR.out.swap hil hjl).drew)
                        obtain ⟨⟨x0, x1, x2⟩, fx0, fx1, fx2⟩ := row_at HSR.out.r hil rfl
                        obtain ⟨⟨y0, y1, y2⟩, fy0, fy1, fy2⟩ := row_at HSR.out.r hjl rfl
                        obtain ⟨x, hx⟩ : ∃ x, x = Lr[j]! := ⟨_, rfl⟩
                        obtain ⟨y, hy⟩ : ∃ y, y = Lr[jp]! := ⟨_, rfl⟩
                        rw [← hx] at x0 x1 x2
                        rw [← hy] at y0 y1 y2
                        rw [← hx, ← hy] at HSRN
                        clear hx hy
                        obtain ⟨xi, xb, xs⟩ := x
                        obtain ⟨yi, yb, ys⟩ := y
                        simp only at x0 x1 x2 y0 y1 y2
                        have hj0 : (0 : Int) ≤ (j : Int) := Int.natCast_nonneg _
                        have hj1 : (j : Int) < (n : Int) := by omega
                        have hp0 : (0 : Int) ≤ (jp : Int) := Int.natCast_nonneg _
                        have hp1 : (jp : Int) < (n : Int) := by omega
                        have hgl := HSR.out.lt
                        have n00 : ¬ j * 3 = jp * 3 := by have := HNE.out; omega
                        have m00 : ¬ jp * 3 = j * 3 := by have := HNE.out; omega
                        have n01 : ¬ j * 3 = jp * 3 + 1 := by have := HNE.out; omega
                        have m01 : ¬ jp * 3 + 1 = j * 3 := by have := HNE.out; omega
                        have n02 : ¬ j * 3 = jp * 3 + 2 := by have := HNE.out; omega
                        have m02 : ¬ jp * 3 + 2 = j * 3 := by have := HNE.out; omega
                        have n10 : ¬ j * 3 + 1 = jp * 3 := by have := HNE.out; omega
                        have m10 : ¬ jp * 3 = j * 3 + 1 := by have := HNE.out; omega
                        have n11 : ¬ j * 3 + 1 = jp * 3 + 1 := by have := HNE.out; omega
                        have m11 : ¬ jp * 3 + 1 = j * 3 + 1 := by have := HNE.out; omega
                        have n12 : ¬ j * 3 + 1 = jp * 3 + 2 := by have := HNE.out; omega
                        have m12 : ¬ jp * 3 + 2 = j * 3 + 1 := by have := HNE.out; omega
                        have n20 : ¬ j * 3 + 2 = jp * 3 := by have := HNE.out; omega
                        have m20 : ¬ jp * 3 = j * 3 + 2 := by have := HNE.out; omega
                        have n21 : ¬ j * 3 + 2 = jp * 3 + 1 := by have := HNE.out; omega
                        have m21 : ¬ jp * 3 + 1 = j * 3 + 2 := by have := HNE.out; omega
                        have n22 : ¬ j * 3 + 2 = jp * 3 + 2 := by have := HNE.out; omega
                        have m22 : ¬ jp * 3 + 2 = j * 3 + 2 := by have := HNE.out; omega
                        clear hil hjl
                        go_upto_region 17 with fail
                        have dx0 : w5.drew.cell? ⟨g, j * 3, none⟩ = some (.int .i64 xi) := x0
                        have dxf0 : w5.drew.frozen? ⟨g, j * 3, none⟩ = false := fx0
                        have dx1 : w5.drew.cell? ⟨g, j * 3 + 1, none⟩ = some (.int .i64 xb) := x1
                        have dxf1 : w5.drew.frozen? ⟨g, j * 3 + 1, none⟩ = false := fx1
                        have dx2 : w5.drew.cell? ⟨g, j * 3 + 2, none⟩ = some (.int .i64 xs) := x2
                        have dxf2 : w5.drew.frozen? ⟨g, j * 3 + 2, none⟩ = false := fx2
                        have dy0 : w5.drew.cell? ⟨g, jp * 3, none⟩ = some (.int .i64 yi) := y0
                        have dyf0 : w5.drew.frozen? ⟨g, jp * 3, none⟩ = false := fy0
                        have dy1 : w5.drew.cell? ⟨g, jp * 3 + 1, none⟩ = some (.int .i64 yb) := y1
                        have dyf1 : w5.drew.frozen? ⟨g, jp * 3 + 1, none⟩ = false := fy1
                        have dy2 : w5.drew.cell? ⟨g, jp * 3 + 2, none⟩ = some (.int .i64 ys) := y2
                        have dyf2 : w5.drew.frozen? ⟨g, jp * 3 + 2, none⟩ = false := fy2
                        have hgd : g < w5.drew.heap.size := hgl
                        go_big_region_o
                        clear n00 n01 n02 n10 n11 n12 n20 n21 n22 m00 m01 m02 m10 m11 m12 m20 m21 m22 x0 x1 x2 y0 y1 y2 fx0 fx1 fx2 fy0 fy1 fy2 dx0 dx1 dx2 dy0 dy1 dy2 dxf0 dxf1 dxf2 dyf0 dyf1 dyf2 hgl hgd hj0 hj1 hp0 hp1 HSR
                        have HSR : Hid (SR w0 g c (sw Lr j jp) (put3 (put3 w5 g (j * 3) ⟨yi, yb, ys⟩) g (jp * 3) ⟨xi, xb, xs⟩).drew) := HSRN
                        have HLL2 : Hid ((sw Lr j jp).length = n) := Lib.hid (by rw [sw_len]; exact HLL.out)
                        clear HSRN hmx

                        go_wp2_with fail
                        go_roundw
                        case rel => exact ⟨jp, _, h5, h6, rfl, HSW3, HSX3, HSR⟩
                        case measure => simp [intOf]; exact hme
                      | false =>
                        have HE : Hid (So s Lr a i2) := Lib.hid (by
                          have e : j - 1 = jp := by have := HJP.out; omega
                          have h9 := HSX.out.stop hji (.inr (by rw [e]; exact hcc))
                          rw [← HIP.out] at h9
                          exact h9)
                        go_wp2_with fail
                        go_meet
                        exact ⟨Lr, HSW, HE, HSR⟩

                  · have hj2 : ¬ (j : Int) ≥ 1 := by omega
                    have HE : Hid (So s Lr a i2) := Lib.hid (by
                      have h9 := HSX.out.stop hji (.inl (by omega))
                      rw [← HIP.out] at h9
                      exact h9)
                    go_wp2_with fail
                    go_meet
                    exact ⟨Lr, HSW, HE, HSR⟩
              · have hge2 : ¬ (d : Int) ≥ 2 := by omega
                have HE : Hid (So s (sw Lr i2 ip) a i2) := Lib.hid (fun p q h1 h2 h3 => by omega)
                clear hd9
                go_wp2_with fail
                go_meet
                exact ⟨_, HSW1, HE, HSR⟩
            case rest =>
              obtain ⟨L2, HSW2, HSO2, HSR2⟩ := hcut
              clear hd8 hd9
              clear HSR HLL HLL2 HOK HSW1 HSX1 HSW HFI
              have HSR := HSR2
              clear HSR2
              obtain ⟨w7, hwn⟩ : ∃ w7, w7 = wc := ⟨_, rfl⟩
              rw [← hwn] at HSR ⊢
              clear hwn
              obtain ⟨d, hd9⟩ : ∃ d, d = b - i2 := ⟨_, rfl⟩
              have hd8 : (b : Int) - (i2 : Int) = (d : Int) := by omega
              by_cases hge : 2 ≤ d
              · have hge2 : (d : Int) ≥ 2 := by omega
                obtain ⟨i3, hi3⟩ : ∃ i3, i3 = i2 + 1 := ⟨_, rfl⟩
                have hi4 : (i2 : Int) + 1 = (i3 : Int) := by omega
                have h33 : i2 < i3 := by omega
                have h34 : i3 ≤ b := by omega
                clear hd9 hi3
                go_wp2_with fail
                go_loopw [12] (fun v wr => ∃ (j : Nat) (Lr : List It), i2 < j ∧ j ≤ b ∧ v = .int .i64 (j : Int) ∧ Hid (Sw a b L Lr) ∧ Hid (So s Lr a i2) ∧ Hid (SR w0 g c Lr wr)) (fun v _ => b + 1 - (intOf v).toNat)
                case atStart => exact ⟨i3, _, h33, h34, rfl, HSW2, HSO2, HSR⟩
                case round =>
                  clear HSW2 HSO2 HSR
                  obtain ⟨j, Lr, haj, hji, rfl, HSW, HSO, HSR⟩ := hrel
                  have HLL : Hid (Lr.length = n) := Lib.hid (HSW.out.len.trans HLN.out)
                  have HOK : Hid (∀ x ∈ Lr, OkI x) := Lib.hid (fun x hx => HOKL.out x (HSW.out.perm.mem_iff.1 hx))
                  by_cases hj1 : j < b
                  · have hj2 : (j : Int) < (b : Int) := by omega
                    obtain ⟨jp, hjp⟩ : ∃ jp, j = jp + 1 := ⟨j - 1, by omega⟩
                    have hjp2 : (j : Int) - 1 = (jp : Int) := by omega
                    have hjn : j < n := by omega
                    have hjpn : jp < n := by omega
                    have HJP := Lib.hid hjp
                    clear hjp
                    have hdr := HSR.out.drew
                    have hil : j < Lr.length := by rw [HLL.out]; omega
                    have hjl : jp < Lr.length := by rw [HLL.out]; omega
                    have EN := cmp_class (w0 := w0) (g := g) (c := c) (L := Lr) HC.out hne HS.out.1 HS.out.2 Lr[j]! Lr[jp]! (HOK.out _ (mem_at hil)) (HOK.out _ (mem_at hjl))
                    have f0 : ∀ x : WIn (SR w0 g c Lr), x.w.cell? ⟨g, j * 3, none⟩ = some (.int .i64 Lr[j]!.id) := fun x => (x.h.at_ hil).1
                    have f1 : ∀ x : WIn (SR w0 g c Lr), x.w.cell? ⟨g, j * 3 + 1, none⟩ = some (.int .i64 Lr[j]!.base) := fun x => (x.h.at_ hil).2.1
                    have f2 : ∀ x : WIn (SR w0 g c Lr), x.w.cell? ⟨g, j * 3 + 2, none⟩ = some (.int .i64 Lr[j]!.since) := fun x => (x.h.at_ hil).2.2
                    have p0 : ∀ x : WIn (SR w0 g c Lr), x.w.cell? ⟨g, jp * 3, none⟩ = some (.int .i64 Lr[jp]!.id) := fun x => (x.h.at_ hjl).1
                    have p1 : ∀ x : WIn (SR w0 g c Lr), x.w.cell? ⟨g, jp * 3 + 1, none⟩ = some (.int .i64 Lr[jp]!.base) := fun x => (x.h.at_ hjl).2.1
                    have p2 : ∀ x : WIn (SR w0 g c Lr), x.w.cell? ⟨g, jp * 3 + 2, none⟩ = some (.int .i64 Lr[jp]!.since) := fun x => (x.h.at_ hjl).2.2
                    haveI hNE : Nonempty (WIn (SR w0 g c Lr)) := ⟨⟨_, hdr⟩⟩
                    have HAH := Lib.hid (cmpL_ah s Lr[j]! Lr[jp]!)
                    obtain ⟨x, hx⟩ : ∃ x, x = Lr[j]! := ⟨_, rfl⟩
                    obtain ⟨y, hy⟩ : ∃ y, y = Lr[jp]! := ⟨_, rfl⟩
                    have HX := Lib.hid hx
                    have HY := Lib.hid hy
                    rw [← hx, ← hy] at EN HAH
                    rw [← hx] at f0 f1 f2
                    rw [← hy] at p0 p1 p2
                    clear hx hy hil hjl
                    obtain ⟨xi, xb, xs⟩ := x
                    obtain ⟨yi, yb, ys⟩ := y
                    simp only at f0 f1 f2 p0 p1 p2
                    generalize cmpL s ⟨xi, xb, xs⟩ ⟨yi, yb, ys⟩ = cc at *
                    have hj0 : (0 : Int) ≤ (j : Int) := Int.natCast_nonneg _
                    have hj1 : (j : Int) < (n : Int) := by omega
                    have hp0 : (0 : Int) ≤ (jp : Int) := Int.natCast_nonneg _
                    have hp1 : (jp : Int) < (n : Int) := by omega
                    go_upto_region 22 with fail
                    go_cut [124] from 112 to 140 (fun t wx => t = .bool (!ahB s Lr[j]! Lr[jp]!) ∧ Hid (SR w0 g c Lr wx))
                    case first =>
                      refine wp_region_class (SR w0 g c Lr) (by kernel_rfl) (by kernel_rfl) hdr ?_
                      repeat (go_big_quiet_step (exact EN _))
                      refine wpQuiet_nil ?_
                      rintro _ ⟨⟨wq, hwq⟩, rfl⟩
                      go_wp2_with fail
                      go_meet
                      exact ⟨by rw [HAH.out, HX.out, HY.out], Lib.hid hwq⟩
                    case rest =>
                      obtain ⟨rfl, HSR2⟩ := hcut
                      obtain ⟨w5, hwc⟩ : ∃ w5, w5 = wc := ⟨_, rfl⟩
                      rw [← hwc] at HSR2 ⊢
                      clear hwc f0 f1 f2 p0 p1 p2 EN hdr HSR HAH HX HY hj0 hj1 hp0 hp1 hNE
                      have HSR := HSR2
                      clear HSR2
                      cases hcc : ahB s Lr[j]! Lr[jp]! with
                      | true =>
                        have HNE : Hid (j ≠ jp) := Lib.hid (by have := HJP.out; omega)
                        have HSO3 : Hid (So s (sw Lr j jp) a i2) := Lib.hid (HSO.out.other (by omega) (by have := HJP.out; omega) (by rw [HLL.out]; omega) (by rw [HLL.out]; omega))
                        have HSW3 : Hid (Sw a b L (sw Lr j jp)) := Lib.hid (.step HSW.out ⟨by omega, by omega⟩ ⟨by have := HJP.out; omega, by omega⟩ (by rw [HLL.out]; exact hbn))
                        obtain ⟨j3, hj3⟩ : ∃ j3, j3 = j + 1 := ⟨_, rfl⟩
                        have hj4 : (j : Int) + 1 = (j3 : Int) := by omega
                        have h5 : i2 < j3 := by omega
                        have h6 : j3 ≤ b := by omega
                        have hme : b + 1 - j3 < b + 1 - j := by omega
                        clear hj3
                        have hmx := mixed
                        have hil : j < Lr.length := by rw [HLL.out]; omega
                        have hjl : jp < Lr.length := by rw [HLL.out]; omega
                        have HSRN := Lib.hid ((HSR.out.swap hil hjl).drew)
                        obtain ⟨⟨x0, x1, x2⟩, fx0, fx1, fx2⟩ := row_at HSR.out.r hil rfl
                        obtain ⟨⟨y0, y1, y2⟩, fy0, fy1, fy2⟩ := row_at HSR.out.r hjl rfl
                        obtain ⟨x, hx⟩ : ∃ x, x = Lr[j]! := ⟨_, rfl⟩
                        obtain ⟨y, hy⟩ : ∃ y, y = Lr[jp]! := ⟨_, rfl⟩
                        rw [← hx] at x0 x1 x2
                        rw [← hy] at y0 y1 y2
                        rw [← hx, ← hy] at HSRN
                        clear hx hy
                        obtain ⟨xi, xb, xs⟩ := x
                        obtain ⟨yi, yb, ys⟩ := y
                        simp only at x0 x1 x2 y0 y1 y2
                        have hj0 : (0 : Int) ≤ (j : Int) := Int.natCast_nonneg _
                        have hj1 : (j : Int) < (n : Int) := by omega
                        have hp0 : (0 : Int) ≤ (jp : Int) := Int.natCast_nonneg _
                        have hp1 : (jp : Int) < (n : Int) := by omega
                        have hgl := HSR.out.lt
                        have n00 : ¬ j * 3 = jp * 3 := by have := HNE.out; omega
                        have m00 : ¬ jp * 3 = j * 3 := by have := HNE.out; omega
                        have n01 : ¬ j * 3 = jp * 3 + 1 := by have := HNE.out; omega
                        have m01 : ¬ jp * 3 + 1 = j * 3 := by have := HNE.out; omega
                        have n02 : ¬ j * 3 = jp * 3 + 2 := by have := HNE.out; omega
                        have m02 : ¬ jp * 3 + 2 = j * 3 := by have := HNE.out; omega
                        have n10 : ¬ j * 3 + 1 = jp * 3 := by have := HNE.out; omega
                        have m10 : ¬ jp * 3 = j * 3 + 1 := by have := HNE.out; omega
                        have n11 : ¬ j * 3 + 1 = jp * 3 + 1 := by have := HNE.out; omega
                        have m11 : ¬ jp * 3 + 1 = j * 3 + 1 := by have := HNE.out; omega
                        have n12 : ¬ j * 3 + 1 = jp * 3 + 2 := by have := HNE.out; omega
                        have m12 : ¬ jp * 3 + 2 = j * 3 + 1 := by have := HNE.out; omega
                        have n20 : ¬ j * 3 + 2 = jp * 3 := by have := HNE.out; omega
                        have m20 : ¬ jp * 3 = j * 3 + 2 := by have := HNE.out; omega
                        have n21 : ¬ j * 3 + 2 = jp * 3 + 1 := by have := HNE.out; omega
                        have m21 : ¬ jp * 3 + 1 = j * 3 + 2 := by have := HNE.out; omega
                        have n22 : ¬ j * 3 + 2 = jp * 3 + 2 := by have := HNE.out; omega
                        have m22 : ¬ jp * 3 + 2 = j * 3 + 2 := by have := HNE.out; omega
                        clear hil hjl
                        go_upto_region 23 with fail
                        have dx0 : w5.drew.cell? ⟨g, j * 3, none⟩ = some (.int .i64 xi) := x0
                        have dxf0 : w5.drew.frozen? ⟨g, j * 3, none⟩ = false := fx0
                        have dx1 : w5.drew.cell? ⟨g, j * 3 + 1, none⟩ = some (.int .i64 xb) := x1
                        have dxf1 : w5.drew.frozen? ⟨g, j * 3 + 1, none⟩ = false := fx1
                        have dx2 : w5.drew.cell? ⟨g, j * 3 + 2, none⟩ = some (.int .i64 xs) := x2
                        have dxf2 : w5.drew.frozen? ⟨g, j * 3 + 2, none⟩ = false := fx2
                        have dy0 : w5.drew.cell? ⟨g, jp * 3, none⟩ = some (.int .i64 yi) := y0
                        have dyf0 : w5.drew.frozen? ⟨g, jp * 3, none⟩ = false := fy0
                        have dy1 : w5.drew.cell? ⟨g, jp * 3 + 1, none⟩ = some (.int .i64 yb) := y1
                        have dyf1 : w5.drew.frozen? ⟨g, jp * 3 + 1, none⟩ = false := fy1
                        have dy2 : w5.drew.cell? ⟨g, jp * 3 + 2, none⟩ = some (.int .i64 ys) := y2
                        have dyf2 : w5.drew.frozen? ⟨g, jp * 3 + 2, none⟩ = false := fy2
                        have hgd : g < w5.drew.heap.size := hgl
                        go_big_region_o
                        clear n00 n01 n02 n10 n11 n12 n20 n21 n22 m00 m01 m02 m10 m11 m12 m20 m21 m22 x0 x1 x2 y0 y1 y2 fx0 fx1 fx2 fy0 fy1 fy2 dx0 dx1 dx2 dy0 dy1 dy2 dxf0 dxf1 dxf2 dyf0 dyf1 dyf2 hgl hgd hj0 hj1 hp0 hp1 HSR
                        have HSR : Hid (SR w0 g c (sw Lr j jp) (put3 (put3 w5 g (j * 3) ⟨yi, yb, ys⟩) g (jp * 3) ⟨xi, xb, xs⟩).drew) := HSRN
                        have HLL2 : Hid ((sw Lr j jp).length = n) := Lib.hid (by rw [sw_len]; exact HLL.out)
                        clear HSRN hmx

                        go_wp2_with fail
                        go_roundw
                        case rel => exact ⟨j3, _, h5, h6, rfl, HSW3, HSO3, HSR⟩
                        case measure => simp [intOf]; exact hme
                      | false =>
                        go_wp2_with fail
                        go_roundw
                        case rel => exact ⟨i2, k3, _, hai2, hib2, hk3, rfl, rfl, HSW, HSO, HSR⟩
                        case measure => simp [intOf]; exact hmek

                  · have hj2 : ¬ (j : Int) < (b : Int) := by omega
                    go_wp2_with fail
                    go_roundw
                    case rel => exact ⟨i2, k3, _, hai2, hib2, hk3, rfl, rfl, HSW, HSO, HSR⟩
                    case measure => simp [intOf]; exact hmek
              · have hge2 : ¬ (d : Int) ≥ 2 := by omega
                clear hd9
                go_wp2_with fail
                go_roundw
                case rel => exact ⟨i2, k3, _, hai2, hib2, hk3, rfl, rfl, HSW2, HSO2, HSR⟩
                case measure => simp [intOf]; exact hmek

    · have hk6 : ¬ (k : Int) < 5 := by omega
      go_wp2_with fail
      go_ret
      exact ⟨false, Lr, rfl, HSW.out, (fun h => by cases h), HSR.out⟩
end Go.Proofs.Ytcipgjelbnmdiaa.HP
