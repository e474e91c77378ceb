/-
  slices.siftDownCmpFunc at items.
-/
import Derived.Test.YtcipgjelbnmdiaaHpR
import Derived.Deep.CutRange
namespace Go.Proofs.Ytcipgjelbnmdiaa.HP
open Go.RowKit Go.Shelf Go.Proofs.Ytcipgjelbnmdiaa.B
attribute [local go_sem] Oper.semAt_some

/-- From a place of the tree on each is behind what lies under it. -/
def Gd (s : Int) (L : List It) (f hi lo : Nat) : Prop := ∀ j, 0 < j → j < hi → lo ≤ (j - 1) / 2 → le s L[f + j]! L[f + (j - 1) / 2]!
/-- .. but for one place. -/
def Dd (s : Int) (L : List It) (f hi lo r : Nat) : Prop :=
  (∀ j, 0 < j → j < hi → lo ≤ (j - 1) / 2 → (j - 1) / 2 ≠ r → le s L[f + j]! L[f + (j - 1) / 2]!) ∧ (lo < r → lo ≤ (r - 1) / 2 ∧ ∀ j, 0 < j → j < hi → (j - 1) / 2 = r → le s L[f + j]! L[f + (r - 1) / 2]!)
theorem Dd.start {s : Int} {L : List It} {f hi lo : Nat} (h : Gd s L f hi (lo + 1)) : Dd s L f hi lo lo := ⟨fun j h1 h2 h3 h4 => h j h1 h2 (by omega), fun h => absurd h (by omega)⟩
theorem Dd.stop {s : Int} {L : List It} {f hi lo r : Nat} (h : Dd s L f hi lo r) (hs : ∀ j, 0 < j → j < hi → (j - 1) / 2 = r → le s L[f + j]! L[f + r]!) : Gd s L f hi lo := fun j h1 h2 h3 => by
  by_cases e : (j - 1) / 2 = r
  · rw [e]; exact hs j h1 h2 e
  · exact h.1 j h1 h2 h3 e
theorem Dd.step {s : Int} {L : List It} {f hi lo r ch : Nat} (h : Dd s L f hi lo r) (hr : lo ≤ r) (hc0 : 0 < ch) (hc : ch < hi) (hp : (ch - 1) / 2 = r) (hl : f + hi ≤ L.length) (ha : ahB s L[f + r]! L[f + ch]! = true) (hm : ∀ j, 0 < j → j < hi → (j - 1) / 2 = r → le s L[f + j]! L[f + ch]!) : Dd s (sw L (f + r) (f + ch)) f hi lo ch := by
  have hrc : r < ch := by omega
  constructor
  · intro j h1 h2 h3 h4
    rw [sw_at (by omega) (by omega), sw_at (by omega) (by omega), if_neg (show ¬ f + (j - 1) / 2 = f + ch by omega)]
    by_cases e : (j - 1) / 2 = r
    · rw [if_pos (show f + (j - 1) / 2 = f + r by omega)]
      by_cases e2 : j = ch
      · rw [if_pos (by omega)]; exact le_of_ah ha
      · rw [if_neg (by omega), if_neg (by omega)]
        exact hm j h1 h2 e
    · rw [if_neg (show ¬ f + (j - 1) / 2 = f + r by omega), if_neg (show ¬ f + j = f + ch by omega)]
      by_cases e2 : j = r
      · rw [if_pos (by omega), e2]
        have h5 := (h.2 (by omega)).2 ch hc0 hc hp
        exact h5
      · rw [if_neg (by omega)]
        exact h.1 j h1 h2 h3 e
  · intro _
    refine ⟨by omega, fun j h1 h2 h3 => ?_⟩
    rw [hp, sw_at (by omega) (by omega), sw_at (by omega) (by omega), if_neg (by omega), if_neg (by omega), if_neg (by omega), if_pos rfl]
    have := h.1 j h1 h2 (by omega) (by omega)
    rw [h3] at this
    exact this
set_option maxRecDepth 100000 in
set_option maxHeartbeats 8000000 in
theorem sd_any (w0 w : World) (g c hh n : Nat) (s : Int) (L : List It) (h : SR w0 g c L w) (hn : L.length = n) (hok : ∀ x ∈ L, OkI x) (hc : w0.cell? ⟨hh, 0, none⟩ = some (.int .i64 s)) (hne : hh ≠ g) (h1 : 1 ≤ s) (h2 : s ≤ 1048576) (hl : n ≤ 100000) (lo hi f : Nat) (hfh : f + hi ≤ n) (hlo : lo ≤ n) (hG : Gd s L f hi (lo + 1)) :
    Calls Try.prog 84 #[.slice (some ⟨g, 0, none⟩) n c, .int .i64 (lo : Int), .int .i64 (hi : Int), .int .i64 (f : Int), fv hh] w fun e w' => e = .returned (.tuple #[]) ∧ ∃ L', Sw f (f + hi) L L' ∧ Gd s L' f hi lo ∧ SR w0 g c L' w' := by
  have HOK0 := Lib.hid hok
  have HC := Lib.hid hc
  have HS := Lib.hid (And.intro h1 h2)
  have H0 := Lib.hid h
  have HN0 := Lib.hid hn
  clear hok hc h1 h2 h hn
  have HOKL := HOK0
  have HLN := HN0
  have HG := Lib.hid hG
  clear hG
  go_enter Try.func84, Try.ntmps84
  go_wp2_with fail
  go_loopw [10] (fun v wr => ∃ (r : Nat) (Lr : List It), lo ≤ r ∧ r ≤ n ∧ v = .int .i64 (r : Int) ∧ Hid (Sw f (f + hi) L Lr) ∧ Hid (Dd s Lr f hi lo r) ∧ Hid (SR w0 g c Lr wr)) (fun v _ => n + 1 - (intOf v).toNat)
  case atStart => exact ⟨lo, L, Nat.le_refl _, hlo, rfl, Lib.hid (.refl _), Lib.hid (Dd.start HG.out), H0⟩
  case round =>
    clear H0 HN0 HOK0
    obtain ⟨r, Lr, hlr, hrn, rfl, HSW, HD, HSR⟩ := hrel
    have HLL : Hid (Lr.length = n) := Lib.hid (HSW.out.len.trans HLN.out)
    have HOK : Hid (∀ x ∈ Lr, OkI x) := Lib.hid (fun x hx => HOKL.out x (HSW.out.perm.mem_iff.1 hx))
    obtain ⟨ch, hch⟩ : ∃ ch, ch = 2 * r + 1 := ⟨_, rfl⟩
    have hch2 : 2 * (r : Int) + 1 = (ch : Int) := by omega
    have HCH := Lib.hid hch
    clear hch
    by_cases hge : hi ≤ ch
    · have hgei : (ch : Int) ≥ (hi : Int) := by omega
      go_wp2_with fail
      go_end0
      exact ⟨rfl, Lr, HSW.out, HD.out.stop (fun j h1 h2 h3 => by have := HCH.out; omega), HSR.out⟩
    · have hgei : ¬ (ch : Int) ≥ (hi : Int) := by omega
      have hchi : ch < hi := by omega
      obtain ⟨ir, hir⟩ : ∃ ir, ir = f + r := ⟨_, rfl⟩
      have hirn : ir < n := by have := HCH.out; omega
      have hir2 : (f : Int) + (r : Int) = (ir : Int) := by omega
      obtain ⟨i0, hi0⟩ : ∃ i0, i0 = f + ch := ⟨_, rfl⟩
      have hi0n : i0 < n := by omega
      have hi02 : (f : Int) + (ch : Int) = (i0 : Int) := by omega
      have HIR := Lib.hid hir
      have HI0 := Lib.hid hi0
      clear hir hi0
      by_cases hlt : ch + 1 < hi
      · have hlti : (ch : Int) + 1 < (hi : Int) := by omega
        obtain ⟨i1, hi1⟩ : ∃ i1, i1 = i0 + 1 := ⟨_, rfl⟩
        have hi1n : i1 < n := by have := HI0.out; omega
        have hi12 : (i0 : Int) + 1 = (i1 : Int) := by omega
        have HI1 := Lib.hid hi1
        obtain ⟨c1, hc1⟩ : ∃ c1, c1 = ch + 1 := ⟨_, rfl⟩
        have hc12 : (ch : Int) + 1 = (c1 : Int) := by omega
        have hc1hi : (c1 : Int) < (hi : Int) := by omega
        have hc1i : (f : Int) + (c1 : Int) = (i1 : Int) := by have := HI0.out; omega
        have HC1 := Lib.hid hc1
        have hd : decide ((c1 : Int) < (hi : Int)) = true := decide_eq_true hc1hi
        clear hi1 hc1 hlti
        have hdr := HSR.out.drew
        have hil : i0 < Lr.length := by rw [HLL.out]; omega
        have hjl : i1 < Lr.length := by rw [HLL.out]; omega
        have EN := cmp_class (w0 := w0) (g := g) (c := c) (L := Lr) HC.out hne HS.out.1 HS.out.2 Lr[i0]! Lr[i1]! (HOK.out _ (mem_at hil)) (HOK.out _ (mem_at hjl))
        have f0 : ∀ x : WIn (SR w0 g c Lr), x.w.cell? ⟨g, i0 * 3, none⟩ = some (.int .i64 Lr[i0]!.id) := fun x => (x.h.at_ hil).1
        have f1 : ∀ x : WIn (SR w0 g c Lr), x.w.cell? ⟨g, i0 * 3 + 1, none⟩ = some (.int .i64 Lr[i0]!.base) := fun x => (x.h.at_ hil).2.1
        have f2 : ∀ x : WIn (SR w0 g c Lr), x.w.cell? ⟨g, i0 * 3 + 2, none⟩ = some (.int .i64 Lr[i0]!.since) := fun x => (x.h.at_ hil).2.2
        have p0 : ∀ x : WIn (SR w0 g c Lr), x.w.cell? ⟨g, i1 * 3, none⟩ = some (.int .i64 Lr[i1]!.id) := fun x => (x.h.at_ hjl).1
        have p1 : ∀ x : WIn (SR w0 g c Lr), x.w.cell? ⟨g, i1 * 3 + 1, none⟩ = some (.int .i64 Lr[i1]!.base) := fun x => (x.h.at_ hjl).2.1
        have p2 : ∀ x : WIn (SR w0 g c Lr), x.w.cell? ⟨g, i1 * 3 + 2, none⟩ = some (.int .i64 Lr[i1]!.since) := fun x => (x.h.at_ hjl).2.2
        haveI hNE : Nonempty (WIn (SR w0 g c Lr)) := ⟨⟨_, hdr⟩⟩
        have HAH := Lib.hid (cmpL_ah s Lr[i0]! Lr[i1]!)
        obtain ⟨x, hx⟩ : ∃ x, x = Lr[i0]! := ⟨_, rfl⟩
        obtain ⟨y, hy⟩ : ∃ y, y = Lr[i1]! := ⟨_, rfl⟩
        have HX := Lib.hid hx
        have HY := Lib.hid hy
        rw [← hx, ← hy] at EN HAH
        rw [← hx] at f0 f1 f2
        rw [← hy] at p0 p1 p2
        clear hx hy hil hjl
        obtain ⟨xi, xb, xs⟩ := x
        obtain ⟨yi, yb, ys⟩ := y
        simp only at f0 f1 f2 p0 p1 p2
        generalize cmpL s ⟨xi, xb, xs⟩ ⟨yi, yb, ys⟩ = cc at *
        have hj0 : (0 : Int) ≤ (i0 : Int) := Int.natCast_nonneg _
        have hj1 : (i0 : Int) < (n : Int) := by omega
        have hp0 : (0 : Int) ≤ (i1 : Int) := Int.natCast_nonneg _
        have hp1 : (i1 : Int) < (n : Int) := by omega
        go_upto_region 3 with fail
        go_cut [40] from 13 to 81 (fun t wx => t = .bool (ahB s Lr[i0]! Lr[i1]!) ∧ Hid (SR w0 g c Lr wx))
        case first =>
          refine wp_region_class (SR w0 g c Lr) (by kernel_rfl) (by kernel_rfl) hdr ?_
          repeat (go_big_quiet_step (exact EN _))
          refine wpQuiet_nil ?_
          rintro _ ⟨⟨wq, hwq⟩, rfl⟩
          go_wp2_with fail
          go_meet
          exact ⟨by rw [HAH.out, HX.out, HY.out], Lib.hid hwq⟩
        case rest =>
          obtain ⟨rfl, HSR2⟩ := hcut
          obtain ⟨w5, hwc⟩ : ∃ w5, w5 = wc := ⟨_, rfl⟩
          rw [← hwc] at HSR2 ⊢
          clear hwc f0 f1 f2 p0 p1 p2 EN hdr HSR HAH HX HY hj0 hj1 hp0 hp1 hNE
          have HSR := HSR2
          clear HSR2
          cases hcc0 : ahB s Lr[i0]! Lr[i1]! with
          | true =>
            have hchi : c1 < hi := by have := HC1.out; omega
            have HI : Hid (i1 = f + c1) := Lib.hid (by have := HI0.out; have := HI1.out; have := HC1.out; omega)
            have HPA : Hid ((c1 - 1) / 2 = r) := Lib.hid (by have := HCH.out; have := HC1.out; omega)
            have HM : Hid (∀ j, 0 < j → j < hi → (j - 1) / 2 = r → le s Lr[f + j]! Lr[f + c1]!) := Lib.hid (fun j h1 h2 h3 => by
              have e : j = ch ∨ j = c1 := by have := HCH.out; have := HC1.out; omega
              rcases e with e | e
              · rw [e, ← HI0.out, ← HI.out]; exact le_of_ah hcc0
              · rw [e]; exact le_refl _ _)
            have hdr := HSR.out.drew
            have hil : ir < Lr.length := by rw [HLL.out]; omega
            have hjl : i1 < Lr.length := by rw [HLL.out]; omega
            have EN := cmp_class (w0 := w0) (g := g) (c := c) (L := Lr) HC.out hne HS.out.1 HS.out.2 Lr[ir]! Lr[i1]! (HOK.out _ (mem_at hil)) (HOK.out _ (mem_at hjl))
            have f0 : ∀ x : WIn (SR w0 g c Lr), x.w.cell? ⟨g, ir * 3, none⟩ = some (.int .i64 Lr[ir]!.id) := fun x => (x.h.at_ hil).1
            have f1 : ∀ x : WIn (SR w0 g c Lr), x.w.cell? ⟨g, ir * 3 + 1, none⟩ = some (.int .i64 Lr[ir]!.base) := fun x => (x.h.at_ hil).2.1
            have f2 : ∀ x : WIn (SR w0 g c Lr), x.w.cell? ⟨g, ir * 3 + 2, none⟩ = some (.int .i64 Lr[ir]!.since) := fun x => (x.h.at_ hil).2.2
            have p0 : ∀ x : WIn (SR w0 g c Lr), x.w.cell? ⟨g, i1 * 3, none⟩ = some (.int .i64 Lr[i1]!.id) := fun x => (x.h.at_ hjl).1
            have p1 : ∀ x : WIn (SR w0 g c Lr), x.w.cell? ⟨g, i1 * 3 + 1, none⟩ = some (.int .i64 Lr[i1]!.base) := fun x => (x.h.at_ hjl).2.1
            have p2 : ∀ x : WIn (SR w0 g c Lr), x.w.cell? ⟨g, i1 * 3 + 2, none⟩ = some (.int .i64 Lr[i1]!.since) := fun x => (x.h.at_ hjl).2.2
            haveI hNE : Nonempty (WIn (SR w0 g c Lr)) := ⟨⟨_, hdr⟩⟩
            have HAH := Lib.hid (cmpL_ah s Lr[ir]! Lr[i1]!)
            obtain ⟨x, hx⟩ : ∃ x, x = Lr[ir]! := ⟨_, rfl⟩
            obtain ⟨y, hy⟩ : ∃ y, y = Lr[i1]! := ⟨_, rfl⟩
            have HX := Lib.hid hx
            have HY := Lib.hid hy
            rw [← hx, ← hy] at EN HAH
            rw [← hx] at f0 f1 f2
            rw [← hy] at p0 p1 p2
            clear hx hy hil hjl
            obtain ⟨xi, xb, xs⟩ := x
            obtain ⟨yi, yb, ys⟩ := y
            simp only at f0 f1 f2 p0 p1 p2
            generalize cmpL s ⟨xi, xb, xs⟩ ⟨yi, yb, ys⟩ = cc at *
            have hj0 : (0 : Int) ≤ (ir : Int) := Int.natCast_nonneg _
            have hj1 : (ir : Int) < (n : Int) := by omega
            have hp0 : (0 : Int) ≤ (i1 : Int) := Int.natCast_nonneg _
            have hp1 : (i1 : Int) < (n : Int) := by omega
            go_upto_region 5 with fail
            go_cut [58] from 13 to 81 (fun t wx => t = .bool (!ahB s Lr[ir]! Lr[i1]!) ∧ Hid (SR w0 g c Lr wx))
            case first =>
              refine wp_region_class (SR w0 g c Lr) (by kernel_rfl) (by kernel_rfl) hdr ?_
              repeat (go_big_quiet_step (exact EN _))
              refine wpQuiet_nil ?_
              rintro _ ⟨⟨wq, hwq⟩, rfl⟩
              go_wp2_with fail
              go_meet
              exact ⟨by rw [HAH.out, HX.out, HY.out], Lib.hid hwq⟩
            case rest =>
              obtain ⟨rfl, HSR2⟩ := hcut
              obtain ⟨w6, hwc⟩ : ∃ w6, w6 = wc := ⟨_, rfl⟩
              rw [← hwc] at HSR2 ⊢
              clear hwc f0 f1 f2 p0 p1 p2 EN hdr HSR HAH HX HY hj0 hj1 hp0 hp1 hNE
              have HSR := HSR2
              clear HSR2
              cases hcc : ahB s Lr[ir]! Lr[i1]! with
              | true =>
                have HNE : Hid (ir ≠ i1) := Lib.hid (by have := HIR.out; have := HI.out; have := HPA.out; omega)
                have hmx := mixed
                have hil : ir < Lr.length := by rw [HLL.out]; omega
                have hjl : i1 < Lr.length := by rw [HLL.out]; omega
                have HSRN := Lib.hid ((HSR.out.swap hil hjl).drew)
                obtain ⟨⟨x0, x1, x2⟩, fx0, fx1, fx2⟩ := row_at HSR.out.r hil rfl
                obtain ⟨⟨y0, y1, y2⟩, fy0, fy1, fy2⟩ := row_at HSR.out.r hjl rfl
                obtain ⟨x, hx⟩ : ∃ x, x = Lr[ir]! := ⟨_, rfl⟩
                obtain ⟨y, hy⟩ : ∃ y, y = Lr[i1]! := ⟨_, rfl⟩
                rw [← hx] at x0 x1 x2
                rw [← hy] at y0 y1 y2
                rw [← hx, ← hy] at HSRN
                clear hx hy
                obtain ⟨xi, xb, xs⟩ := x
                obtain ⟨yi, yb, ys⟩ := y
                simp only at x0 x1 x2 y0 y1 y2
                have hj0 : (0 : Int) ≤ (ir : Int) := Int.natCast_nonneg _
                have hj1 : (ir : Int) < (n : Int) := by omega
                have hp0 : (0 : Int) ≤ (i1 : Int) := Int.natCast_nonneg _
                have hp1 : (i1 : Int) < (n : Int) := by omega
                have hgl := HSR.out.lt
                have n00 : ¬ ir * 3 = i1 * 3 := by have := HNE.out; omega
                have m00 : ¬ i1 * 3 = ir * 3 := by have := HNE.out; omega
                have n01 : ¬ ir * 3 = i1 * 3 + 1 := by have := HNE.out; omega
                have m01 : ¬ i1 * 3 + 1 = ir * 3 := by have := HNE.out; omega
                have n02 : ¬ ir * 3 = i1 * 3 + 2 := by have := HNE.out; omega
                have m02 : ¬ i1 * 3 + 2 = ir * 3 := by have := HNE.out; omega
                have n10 : ¬ ir * 3 + 1 = i1 * 3 := by have := HNE.out; omega
                have m10 : ¬ i1 * 3 = ir * 3 + 1 := by have := HNE.out; omega
                have n11 : ¬ ir * 3 + 1 = i1 * 3 + 1 := by have := HNE.out; omega
                have m11 : ¬ i1 * 3 + 1 = ir * 3 + 1 := by have := HNE.out; omega
                have n12 : ¬ ir * 3 + 1 = i1 * 3 + 2 := by have := HNE.out; omega
                have m12 : ¬ i1 * 3 + 2 = ir * 3 + 1 := by have := HNE.out; omega
                have n20 : ¬ ir * 3 + 2 = i1 * 3 := by have := HNE.out; omega
                have m20 : ¬ i1 * 3 = ir * 3 + 2 := by have := HNE.out; omega
                have n21 : ¬ ir * 3 + 2 = i1 * 3 + 1 := by have := HNE.out; omega
                have m21 : ¬ i1 * 3 + 1 = ir * 3 + 2 := by have := HNE.out; omega
                have n22 : ¬ ir * 3 + 2 = i1 * 3 + 2 := by have := HNE.out; omega
                have m22 : ¬ i1 * 3 + 2 = ir * 3 + 2 := by have := HNE.out; omega
                clear hil hjl
                go_upto_region 6 with fail
                have dx0 : w6.drew.cell? ⟨g, ir * 3, none⟩ = some (.int .i64 xi) := x0
                have dxf0 : w6.drew.frozen? ⟨g, ir * 3, none⟩ = false := fx0
                have dx1 : w6.drew.cell? ⟨g, ir * 3 + 1, none⟩ = some (.int .i64 xb) := x1
                have dxf1 : w6.drew.frozen? ⟨g, ir * 3 + 1, none⟩ = false := fx1
                have dx2 : w6.drew.cell? ⟨g, ir * 3 + 2, none⟩ = some (.int .i64 xs) := x2
                have dxf2 : w6.drew.frozen? ⟨g, ir * 3 + 2, none⟩ = false := fx2
                have dy0 : w6.drew.cell? ⟨g, i1 * 3, none⟩ = some (.int .i64 yi) := y0
                have dyf0 : w6.drew.frozen? ⟨g, i1 * 3, none⟩ = false := fy0
                have dy1 : w6.drew.cell? ⟨g, i1 * 3 + 1, none⟩ = some (.int .i64 yb) := y1
                have dyf1 : w6.drew.frozen? ⟨g, i1 * 3 + 1, none⟩ = false := fy1
                have dy2 : w6.drew.cell? ⟨g, i1 * 3 + 2, none⟩ = some (.int .i64 ys) := y2
                have dyf2 : w6.drew.frozen? ⟨g, i1 * 3 + 2, none⟩ = false := fy2
                have hgd : g < w6.drew.heap.size := hgl
                go_big_region_o
                clear n00 n01 n02 n10 n11 n12 n20 n21 n22 m00 m01 m02 m10 m11 m12 m20 m21 m22 x0 x1 x2 y0 y1 y2 fx0 fx1 fx2 fy0 fy1 fy2 dx0 dx1 dx2 dy0 dy1 dy2 dxf0 dxf1 dxf2 dyf0 dyf1 dyf2 hgl hgd hj0 hj1 hp0 hp1 HSR
                have HSR : Hid (SR w0 g c (sw Lr ir i1) (put3 (put3 w6 g (ir * 3) ⟨yi, yb, ys⟩) g (i1 * 3) ⟨xi, xb, xs⟩).drew) := HSRN
                have HLL2 : Hid ((sw Lr ir i1).length = n) := Lib.hid (by rw [sw_len]; exact HLL.out)
                clear HSRN hmx

                go_wp2_with fail
                have HSW2 : Hid (Sw f (f + hi) L (sw Lr ir i1)) := Lib.hid (.step HSW.out (by rw [HIR.out]; omega) (by rw [HI.out]; omega) (by rw [HLL.out]; omega))
                have HD2 : Hid (Dd s (sw Lr ir i1) f hi lo c1) := Lib.hid (by
                  have h9 := Dd.step (ch := c1) HD.out hlr (by omega) hchi HPA.out (by rw [HLL.out]; omega) (by rw [← HIR.out, ← HI.out]; exact hcc) HM.out
                  rw [← HIR.out, ← HI.out] at h9
                  exact h9)
                go_roundw
                case rel => exact ⟨c1, sw Lr ir i1, by omega, by omega, rfl, HSW2, HD2, HSR⟩
                case measure => (have := HPA.out; simp [intOf]; omega)
              | false =>
                go_wp2_with fail
                refine bodyPost_ret (results_none rfl _ _ _) rfl ?_
                refine ⟨rfl, Lr, HSW.out, HD.out.stop (fun j h1 h2 h3 => ?_), HSR.out⟩
                have h4 := HM.out j h1 h2 h3
                rw [← HI.out] at h4
                rw [← HIR.out]
                exact le_trans h4 hcc

          | false =>
            have HI : Hid (i0 = f + ch) := HI0
            have HPA : Hid ((ch - 1) / 2 = r) := Lib.hid (by have := HCH.out; omega)
            have HM : Hid (∀ j, 0 < j → j < hi → (j - 1) / 2 = r → le s Lr[f + j]! Lr[f + ch]!) := Lib.hid (fun j h1 h2 h3 => by
              have e : j = ch ∨ j = c1 := by have := HCH.out; have := HC1.out; omega
              rcases e with e | e
              · rw [e]; exact le_refl _ _
              · have e2 : f + j = i1 := by have := HI0.out; have := HI1.out; have := HC1.out; omega
                rw [e2, ← HI0.out]; exact hcc0)
            have hdr := HSR.out.drew
            have hil : ir < Lr.length := by rw [HLL.out]; omega
            have hjl : i0 < Lr.length := by rw [HLL.out]; omega
            have EN := cmp_class (w0 := w0) (g := g) (c := c) (L := Lr) HC.out hne HS.out.1 HS.out.2 Lr[ir]! Lr[i0]! (HOK.out _ (mem_at hil)) (HOK.out _ (mem_at hjl))
            have f0 : ∀ x : WIn (SR w0 g c Lr), x.w.cell? ⟨g, ir * 3, none⟩ = some (.int .i64 Lr[ir]!.id) := fun x => (x.h.at_ hil).1
            have f1 : ∀ x : WIn (SR w0 g c Lr), x.w.cell? ⟨g, ir * 3 + 1, none⟩ = some (.int .i64 Lr[ir]!.base) := fun x => (x.h.at_ hil).2.1
            have f2 : ∀ x : WIn (SR w0 g c Lr), x.w.cell? ⟨g, ir * 3 + 2, none⟩ = some (.int .i64 Lr[ir]!.since) := fun x => (x.h.at_ hil).2.2
            have p0 : ∀ x : WIn (SR w0 g c Lr), x.w.cell? ⟨g, i0 * 3, none⟩ = some (.int .i64 Lr[i0]!.id) := fun x => (x.h.at_ hjl).1
            have p1 : ∀ x : WIn (SR w0 g c Lr), x.w.cell? ⟨g, i0 * 3 + 1, none⟩ = some (.int .i64 Lr[i0]!.base) := fun x => (x.h.at_ hjl).2.1
            have p2 : ∀ x : WIn (SR w0 g c Lr), x.w.cell? ⟨g, i0 * 3 + 2, none⟩ = some (.int .i64 Lr[i0]!.since) := fun x => (x.h.at_ hjl).2.2
            haveI hNE : Nonempty (WIn (SR w0 g c Lr)) := ⟨⟨_, hdr⟩⟩
            have HAH := Lib.hid (cmpL_ah s Lr[ir]! Lr[i0]!)
            obtain ⟨x, hx⟩ : ∃ x, x = Lr[ir]! := ⟨_, rfl⟩
            obtain ⟨y, hy⟩ : ∃ y, y = Lr[i0]! := ⟨_, rfl⟩
            have HX := Lib.hid hx
            have HY := Lib.hid hy
            rw [← hx, ← hy] at EN HAH
            rw [← hx] at f0 f1 f2
            rw [← hy] at p0 p1 p2
            clear hx hy hil hjl
            obtain ⟨xi, xb, xs⟩ := x
            obtain ⟨yi, yb, ys⟩ := y
            simp only at f0 f1 f2 p0 p1 p2
            generalize cmpL s ⟨xi, xb, xs⟩ ⟨yi, yb, ys⟩ = cc at *
            have hj0 : (0 : Int) ≤ (ir : Int) := Int.natCast_nonneg _
            have hj1 : (ir : Int) < (n : Int) := by omega
            have hp0 : (0 : Int) ≤ (i0 : Int) := Int.natCast_nonneg _
            have hp1 : (i0 : Int) < (n : Int) := by omega
            go_upto_region 5 with fail
            go_cut [58] from 13 to 81 (fun t wx => t = .bool (!ahB s Lr[ir]! Lr[i0]!) ∧ Hid (SR w0 g c Lr wx))
            case first =>
              refine wp_region_class (SR w0 g c Lr) (by kernel_rfl) (by kernel_rfl) hdr ?_
              repeat (go_big_quiet_step (exact EN _))
              refine wpQuiet_nil ?_
              rintro _ ⟨⟨wq, hwq⟩, rfl⟩
              go_wp2_with fail
              go_meet
              exact ⟨by rw [HAH.out, HX.out, HY.out], Lib.hid hwq⟩
            case rest =>
              obtain ⟨rfl, HSR2⟩ := hcut
              obtain ⟨w6, hwc⟩ : ∃ w6, w6 = wc := ⟨_, rfl⟩
              rw [← hwc] at HSR2 ⊢
              clear hwc f0 f1 f2 p0 p1 p2 EN hdr HSR HAH HX HY hj0 hj1 hp0 hp1 hNE
              have HSR := HSR2
              clear HSR2
              cases hcc : ahB s Lr[ir]! Lr[i0]! with
              | true =>
                have HNE : Hid (ir ≠ i0) := Lib.hid (by have := HIR.out; have := HI.out; have := HPA.out; omega)
                have hmx := mixed
                have hil : ir < Lr.length := by rw [HLL.out]; omega
                have hjl : i0 < Lr.length := by rw [HLL.out]; omega
                have HSRN := Lib.hid ((HSR.out.swap hil hjl).drew)
                obtain ⟨⟨x0, x1, x2⟩, fx0, fx1, fx2⟩ := row_at HSR.out.r hil rfl
                obtain ⟨⟨y0, y1, y2⟩, fy0, fy1, fy2⟩ := row_at HSR.out.r hjl rfl
                obtain ⟨x, hx⟩ : ∃ x, x = Lr[ir]! := ⟨_, rfl⟩
                obtain ⟨y, hy⟩ : ∃ y, y = Lr[i0]! := ⟨_, rfl⟩
                rw [← hx] at x0 x1 x2
                rw [← hy] at y0 y1 y2
                rw [← hx, ← hy] at HSRN
                clear hx hy
                obtain ⟨xi, xb, xs⟩ := x
                obtain ⟨yi, yb, ys⟩ := y
                simp only at x0 x1 x2 y0 y1 y2
                have hj0 : (0 : Int) ≤ (ir : Int) := Int.natCast_nonneg _
                have hj1 : (ir : Int) < (n : Int) := by omega
                have hp0 : (0 : Int) ≤ (i0 : Int) := Int.natCast_nonneg _
                have hp1 : (i0 : Int) < (n : Int) := by omega
                have hgl := HSR.out.lt
                have n00 : ¬ ir * 3 = i0 * 3 := by have := HNE.out; omega
                have m00 : ¬ i0 * 3 = ir * 3 := by have := HNE.out; omega
                have n01 : ¬ ir * 3 = i0 * 3 + 1 := by have := HNE.out; omega
                have m01 : ¬ i0 * 3 + 1 = ir * 3 := by have := HNE.out; omega
                have n02 : ¬ ir * 3 = i0 * 3 + 2 := by have := HNE.out; omega
                have m02 : ¬ i0 * 3 + 2 = ir * 3 := by have := HNE.out; omega
                have n10 : ¬ ir * 3 + 1 = i0 * 3 := by have := HNE.out; omega
                have m10 : ¬ i0 * 3 = ir * 3 + 1 := by have := HNE.out; omega
                have n11 : ¬ ir * 3 + 1 = i0 * 3 + 1 := by have := HNE.out; omega
                have m11 : ¬ i0 * 3 + 1 = ir * 3 + 1 := by have := HNE.out; omega
                have n12 : ¬ ir * 3 + 1 = i0 * 3 + 2 := by have := HNE.out; omega
                have m12 : ¬ i0 * 3 + 2 = ir * 3 + 1 := by have := HNE.out; omega
                have n20 : ¬ ir * 3 + 2 = i0 * 3 := by have := HNE.out; omega
                have m20 : ¬ i0 * 3 = ir * 3 + 2 := by have := HNE.out; omega
                have n21 : ¬ ir * 3 + 2 = i0 * 3 + 1 := by have := HNE.out; omega
                have m21 : ¬ i0 * 3 + 1 = ir * 3 + 2 := by have := HNE.out; omega
                have n22 : ¬ ir * 3 + 2 = i0 * 3 + 2 := by have := HNE.out; omega
                have m22 : ¬ i0 * 3 + 2 = ir * 3 + 2 := by have := HNE.out; omega
                clear hil hjl
                go_upto_region 6 with fail
                have dx0 : w6.drew.cell? ⟨g, ir * 3, none⟩ = some (.int .i64 xi) := x0
                have dxf0 : w6.drew.frozen? ⟨g, ir * 3, none⟩ = false := fx0
                have dx1 : w6.drew.cell? ⟨g, ir * 3 + 1, none⟩ = some (.int .i64 xb) := x1
                have dxf1 : w6.drew.frozen? ⟨g, ir * 3 + 1, none⟩ = false := fx1
                have dx2 : w6.drew.cell? ⟨g, ir * 3 + 2, none⟩ = some (.int .i64 xs) := x2
                have dxf2 : w6.drew.frozen? ⟨g, ir * 3 + 2, none⟩ = false := fx2
                have dy0 : w6.drew.cell? ⟨g, i0 * 3, none⟩ = some (.int .i64 yi) := y0
                have dyf0 : w6.drew.frozen? ⟨g, i0 * 3, none⟩ = false := fy0
                have dy1 : w6.drew.cell? ⟨g, i0 * 3 + 1, none⟩ = some (.int .i64 yb) := y1
                have dyf1 : w6.drew.frozen? ⟨g, i0 * 3 + 1, none⟩ = false := fy1
                have dy2 : w6.drew.cell? ⟨g, i0 * 3 + 2, none⟩ = some (.int .i64 ys) := y2
                have dyf2 : w6.drew.frozen? ⟨g, i0 * 3 + 2, none⟩ = false := fy2
                have hgd : g < w6.drew.heap.size := hgl
                go_big_region_o
                clear n00 n01 n02 n10 n11 n12 n20 n21 n22 m00 m01 m02 m10 m11 m12 m20 m21 m22 x0 x1 x2 y0 y1 y2 fx0 fx1 fx2 fy0 fy1 fy2 dx0 dx1 dx2 dy0 dy1 dy2 dxf0 dxf1 dxf2 dyf0 dyf1 dyf2 hgl hgd hj0 hj1 hp0 hp1 HSR
                have HSR : Hid (SR w0 g c (sw Lr ir i0) (put3 (put3 w6 g (ir * 3) ⟨yi, yb, ys⟩) g (i0 * 3) ⟨xi, xb, xs⟩).drew) := HSRN
                have HLL2 : Hid ((sw Lr ir i0).length = n) := Lib.hid (by rw [sw_len]; exact HLL.out)
                clear HSRN hmx

                go_wp2_with fail
                have HSW2 : Hid (Sw f (f + hi) L (sw Lr ir i0)) := Lib.hid (.step HSW.out (by rw [HIR.out]; omega) (by rw [HI.out]; omega) (by rw [HLL.out]; omega))
                have HD2 : Hid (Dd s (sw Lr ir i0) f hi lo ch) := Lib.hid (by
                  have h9 := Dd.step (ch := ch) HD.out hlr (by omega) hchi HPA.out (by rw [HLL.out]; omega) (by rw [← HIR.out, ← HI.out]; exact hcc) HM.out
                  rw [← HIR.out, ← HI.out] at h9
                  exact h9)
                go_roundw
                case rel => exact ⟨ch, sw Lr ir i0, by omega, by omega, rfl, HSW2, HD2, HSR⟩
                case measure => (have := HPA.out; simp [intOf]; omega)
              | false =>
                go_wp2_with fail
                refine bodyPost_ret (results_none rfl _ _ _) rfl ?_
                refine ⟨rfl, Lr, HSW.out, HD.out.stop (fun j h1 h2 h3 => ?_), HSR.out⟩
                have h4 := HM.out j h1 h2 h3
                rw [← HI.out] at h4
                rw [← HIR.out]
                exact le_trans h4 hcc

      · have hlti : ¬ (ch : Int) + 1 < (hi : Int) := by omega
        have hd : decide ((ch : Int) + 1 < (hi : Int)) = false := decide_eq_false hlti
        have hdr := HSR.out.drew
        haveI hNE : Nonempty (WIn (SR w0 g c Lr)) := ⟨⟨_, hdr⟩⟩
        go_upto_region 3 with fail
        go_cut [40] from 13 to 81 (fun t wx => t = .bool false ∧ Hid (SR w0 g c Lr wx))
        case first =>
          refine wp_region_class (SR w0 g c Lr) (by kernel_rfl) (by kernel_rfl) hdr ?_
          repeat (go_big_quiet_step (fail))
          refine wpQuiet_nil ?_
          rintro _ ⟨⟨wq, hwq⟩, rfl⟩
          go_wp2_with fail
          go_meet
          exact ⟨rfl, Lib.hid hwq⟩
        case rest =>
          obtain ⟨rfl, HSR2⟩ := hcut
          obtain ⟨w5, hwc⟩ : ∃ w5, w5 = wc := ⟨_, rfl⟩
          rw [← hwc] at HSR2 ⊢
          clear hwc hdr HSR hNE
          have HSR := HSR2
          clear HSR2
          have HI : Hid (i0 = f + ch) := HI0
          have HPA : Hid ((ch - 1) / 2 = r) := Lib.hid (by have := HCH.out; omega)
          have HM : Hid (∀ j, 0 < j → j < hi → (j - 1) / 2 = r → le s Lr[f + j]! Lr[f + ch]!) := Lib.hid (fun j h1 h2 h3 => by
            have e : j = ch := by have := HCH.out; omega
            rw [e]; exact le_refl _ _)
          have hdr := HSR.out.drew
          have hil : ir < Lr.length := by rw [HLL.out]; omega
          have hjl : i0 < Lr.length := by rw [HLL.out]; omega
          have EN := cmp_class (w0 := w0) (g := g) (c := c) (L := Lr) HC.out hne HS.out.1 HS.out.2 Lr[ir]! Lr[i0]! (HOK.out _ (mem_at hil)) (HOK.out _ (mem_at hjl))
          have f0 : ∀ x : WIn (SR w0 g c Lr), x.w.cell? ⟨g, ir * 3, none⟩ = some (.int .i64 Lr[ir]!.id) := fun x => (x.h.at_ hil).1
          have f1 : ∀ x : WIn (SR w0 g c Lr), x.w.cell? ⟨g, ir * 3 + 1, none⟩ = some (.int .i64 Lr[ir]!.base) := fun x => (x.h.at_ hil).2.1
          have f2 : ∀ x : WIn (SR w0 g c Lr), x.w.cell? ⟨g, ir * 3 + 2, none⟩ = some (.int .i64 Lr[ir]!.since) := fun x => (x.h.at_ hil).2.2
          have p0 : ∀ x : WIn (SR w0 g c Lr), x.w.cell? ⟨g, i0 * 3, none⟩ = some (.int .i64 Lr[i0]!.id) := fun x => (x.h.at_ hjl).1
          have p1 : ∀ x : WIn (SR w0 g c Lr), x.w.cell? ⟨g, i0 * 3 + 1, none⟩ = some (.int .i64 Lr[i0]!.base) := fun x => (x.h.at_ hjl).2.1
          have p2 : ∀ x : WIn (SR w0 g c Lr), x.w.cell? ⟨g, i0 * 3 + 2, none⟩ = some (.int .i64 Lr[i0]!.since) := fun x => (x.h.at_ hjl).2.2
          haveI hNE : Nonempty (WIn (SR w0 g c Lr)) := ⟨⟨_, hdr⟩⟩
          have HAH := Lib.hid (cmpL_ah s Lr[ir]! Lr[i0]!)
          obtain ⟨x, hx⟩ : ∃ x, x = Lr[ir]! := ⟨_, rfl⟩
          obtain ⟨y, hy⟩ : ∃ y, y = Lr[i0]! := ⟨_, rfl⟩
          have HX := Lib.hid hx
          have HY := Lib.hid hy
          rw [← hx, ← hy] at EN HAH
          rw [← hx] at f0 f1 f2
          rw [← hy] at p0 p1 p2
          clear hx hy hil hjl
          obtain ⟨xi, xb, xs⟩ := x
          obtain ⟨yi, yb, ys⟩ := y
          simp only at f0 f1 f2 p0 p1 p2
          generalize cmpL s ⟨xi, xb, xs⟩ ⟨yi, yb, ys⟩ = cc at *
          have hj0 : (0 : Int) ≤ (ir : Int) := Int.natCast_nonneg _
          have hj1 : (ir : Int) < (n : Int) := by omega
          have hp0 : (0 : Int) ≤ (i0 : Int) := Int.natCast_nonneg _
          have hp1 : (i0 : Int) < (n : Int) := by omega
          go_upto_region 5 with fail
          go_cut [58] from 13 to 81 (fun t wx => t = .bool (!ahB s Lr[ir]! Lr[i0]!) ∧ Hid (SR w0 g c Lr wx))
          case first =>
            refine wp_region_class (SR w0 g c Lr) (by kernel_rfl) (by kernel_rfl) hdr ?_
            repeat (go_big_quiet_step (exact EN _))
            refine wpQuiet_nil ?_
            rintro _ ⟨⟨wq, hwq⟩, rfl⟩
            go_wp2_with fail
            go_meet
            exact ⟨by rw [HAH.out, HX.out, HY.out], Lib.hid hwq⟩
          case rest =>
            obtain ⟨rfl, HSR2⟩ := hcut
            obtain ⟨w6, hwc⟩ : ∃ w6, w6 = wc := ⟨_, rfl⟩
            rw [← hwc] at HSR2 ⊢
            clear hwc f0 f1 f2 p0 p1 p2 EN hdr HSR HAH HX HY hj0 hj1 hp0 hp1 hNE
            have HSR := HSR2
            clear HSR2
            cases hcc : ahB s Lr[ir]! Lr[i0]! with
            | true =>
              have HNE : Hid (ir ≠ i0) := Lib.hid (by have := HIR.out; have := HI.out; have := HPA.out; omega)
              have hmx := mixed
              have hil : ir < Lr.length := by rw [HLL.out]; omega
              have hjl : i0 < Lr.length := by rw [HLL.out]; omega
              have HSRN := Lib.hid ((HSR.out.swap hil hjl).drew)
              obtain ⟨⟨x0, x1, x2⟩, fx0, fx1, fx2⟩ := row_at HSR.out.r hil rfl
              obtain ⟨⟨y0, y1, y2⟩, fy0, fy1, fy2⟩ := row_at HSR.out.r hjl rfl
              obtain ⟨x, hx⟩ : ∃ x, x = Lr[ir]! := ⟨_, rfl⟩
              obtain ⟨y, hy⟩ : ∃ y, y = Lr[i0]! := ⟨_, rfl⟩
              rw [← hx] at x0 x1 x2
              rw [← hy] at y0 y1 y2
              rw [← hx, ← hy] at HSRN
              clear hx hy
              obtain ⟨xi, xb, xs⟩ := x
              obtain ⟨yi, yb, ys⟩ := y
              simp only at x0 x1 x2 y0 y1 y2
              have hj0 : (0 : Int) ≤ (ir : Int) := Int.natCast_nonneg _
              have hj1 : (ir : Int) < (n : Int) := by omega
              have hp0 : (0 : Int) ≤ (i0 : Int) := Int.natCast_nonneg _
              have hp1 : (i0 : Int) < (n : Int) := by omega
              have hgl := HSR.out.lt
              have n00 : ¬ ir * 3 = i0 * 3 := by have := HNE.out; omega
              have m00 : ¬ i0 * 3 = ir * 3 := by have := HNE.out; omega
              have n01 : ¬ ir * 3 = i0 * 3 + 1 := by have := HNE.out; omega
              have m01 : ¬ i0 * 3 + 1 = ir * 3 := by have := HNE.out; omega
              have n02 : ¬ ir * 3 = i0 * 3 + 2 := by have := HNE.out; omega
              have m02 : ¬ i0 * 3 + 2 = ir * 3 := by have := HNE.out; omega
              have n10 : ¬ ir * 3 + 1 = i0 * 3 := by have := HNE.out; omega
              have m10 : ¬ i0 * 3 = ir * 3 + 1 := by have := HNE.out; omega
              have n11 : ¬ ir * 3 + 1 = i0 * 3 + 1 := by have := HNE.out; omega
              have m11 : ¬ i0 * 3 + 1 = ir * 3 + 1 := by have := HNE.out; omega
              have n12 : ¬ ir * 3 + 1 = i0 * 3 + 2 := by have := HNE.out; omega
              have m12 : ¬ i0 * 3 + 2 = ir * 3 + 1 := by have := HNE.out; omega
              have n20 : ¬ ir * 3 + 2 = i0 * 3 := by have := HNE.out; omega
              have m20 : ¬ i0 * 3 = ir * 3 + 2 := by have := HNE.out; omega
              have n21 : ¬ ir * 3 + 2 = i0 * 3 + 1 := by have := HNE.out; omega
              have m21 : ¬ i0 * 3 + 1 = ir * 3 + 2 := by have := HNE.out; omega
              have n22 : ¬ ir * 3 + 2 = i0 * 3 + 2 := by have := HNE.out; omega
              have m22 : ¬ i0 * 3 + 2 = ir * 3 + 2 := by have := HNE.out; omega
              clear hil hjl
              go_upto_region 6 with fail
              have dx0 : w6.drew.cell? ⟨g, ir * 3, none⟩ = some (.int .i64 xi) := x0
              have dxf0 : w6.drew.frozen? ⟨g, ir * 3, none⟩ = false := fx0
              have dx1 : w6.drew.cell? ⟨g, ir * 3 + 1, none⟩ = some (.int .i64 xb) := x1
              have dxf1 : w6.drew.frozen? ⟨g, ir * 3 + 1, none⟩ = false := fx1
              have dx2 : w6.drew.cell? ⟨g, ir * 3 + 2, none⟩ = some (.int .i64 xs) := x2
              have dxf2 : w6.drew.frozen? ⟨g, ir * 3 + 2, none⟩ = false := fx2
              have dy0 : w6.drew.cell? ⟨g, i0 * 3, none⟩ = some (.int .i64 yi) := y0
              have dyf0 : w6.drew.frozen? ⟨g, i0 * 3, none⟩ = false := fy0
              have dy1 : w6.drew.cell? ⟨g, i0 * 3 + 1, none⟩ = some (.int .i64 yb) := y1
              have dyf1 : w6.drew.frozen? ⟨g, i0 * 3 + 1, none⟩ = false := fy1
              have dy2 : w6.drew.cell? ⟨g, i0 * 3 + 2, none⟩ = some (.int .i64 ys) := y2
              have dyf2 : w6.drew.frozen? ⟨g, i0 * 3 + 2, none⟩ = false := fy2
              have hgd : g < w6.drew.heap.size := hgl
              go_big_region_o
              clear n00 n01 n02 n10 n11 n12 n20 n21 n22 m00 m01 m02 m10 m11 m12 m20 m21 m22 x0 x1 x2 y0 y1 y2 fx0 fx1 fx2 fy0 fy1 fy2 dx0 dx1 dx2 dy0 dy1 dy2 dxf0 dxf1 dxf2 dyf0 dyf1 dyf2 hgl hgd hj0 hj1 hp0 hp1 HSR
              have HSR : Hid (SR w0 g c (sw Lr ir i0) (put3 (put3 w6 g (ir * 3) ⟨yi, yb, ys⟩) g (i0 * 3) ⟨xi, xb, xs⟩).drew) := HSRN
              have HLL2 : Hid ((sw Lr ir i0).length = n) := Lib.hid (by rw [sw_len]; exact HLL.out)
              clear HSRN hmx

              go_wp2_with fail
              have HSW2 : Hid (Sw f (f + hi) L (sw Lr ir i0)) := Lib.hid (.step HSW.out (by rw [HIR.out]; omega) (by rw [HI.out]; omega) (by rw [HLL.out]; omega))
              have HD2 : Hid (Dd s (sw Lr ir i0) f hi lo ch) := Lib.hid (by
                have h9 := Dd.step (ch := ch) HD.out hlr (by omega) hchi HPA.out (by rw [HLL.out]; omega) (by rw [← HIR.out, ← HI.out]; exact hcc) HM.out
                rw [← HIR.out, ← HI.out] at h9
                exact h9)
              go_roundw
              case rel => exact ⟨ch, sw Lr ir i0, by omega, by omega, rfl, HSW2, HD2, HSR⟩
              case measure => (have := HPA.out; simp [intOf]; omega)
            | false =>
              go_wp2_with fail
              refine bodyPost_ret (results_none rfl _ _ _) rfl ?_
              refine ⟨rfl, Lr, HSW.out, HD.out.stop (fun j h1 h2 h3 => ?_), HSR.out⟩
              have h4 := HM.out j h1 h2 h3
              rw [← HI.out] at h4
              rw [← HIR.out]
              exact le_trans h4 hcc


end Go.Proofs.Ytcipgjelbnmdiaa.HP
