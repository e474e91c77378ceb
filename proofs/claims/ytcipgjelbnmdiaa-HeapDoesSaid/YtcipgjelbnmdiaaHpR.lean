/-
  Contract of slices.insertionSortCmpFunc at items.
-/
import Derived.Test.YtcipgjelbnmdiaaHpQ
import Derived.Deep.CutRange
import Derived.Deep.LoopGhost
import Derived.Shelf.RegionOpenPlain
namespace Go.Proofs.Ytcipgjelbnmdiaa.HP
open Go.RowKit Go.Shelf Go.Proofs.Ytcipgjelbnmdiaa.B
attribute [local go_sem] Oper.semAt_some

/-- heap.compare, bound to a heap. -/
abbrev fv (h : Nat) : Value := .func (.func 50) #[pt h] #[]
set_option maxRecDepth 100000 in
set_option maxHeartbeats 4000000 in
theorem ins_any (w0 w : World) (g c hh : Nat) (s : Int) (L : List It) (h : SR w0 g c L w) (hok : ∀ x ∈ L, OkI x) (hc : w0.cell? ⟨hh, 0, none⟩ = some (.int .i64 s)) (hne : hh ≠ g) (h1 : 1 ≤ s) (h2 : s ≤ 1048576)
    (a b : Nat) (hab : a ≤ b) (hbl : b ≤ L.length) (hl : L.length ≤ 100000) :
    Calls Try.prog 74 #[.slice (some ⟨g, 0, none⟩) L.length c, .int .i64 (a : Int), .int .i64 (b : Int), fv hh] w fun e w' => e = .returned (.tuple #[]) ∧ ∃ L', Sw a b L L' ∧ So s L' a b ∧ SR w0 g c L' w' := by
  have HOK := Lib.hid hok
  have HC := Lib.hid hc
  have HS := Lib.hid (And.intro h1 h2)
  have H0 := Lib.hid h
  clear hok hc h1 h2 h
  go_enter Try.func74, Try.ntmps74
  go_wp2_with fail
  go_loopg [8] (b - a) (fun g1 vi wr => ∃ (i : Nat) (Li : List It), vi = .int .i64 (i : Int) ∧ a < i ∧ i ≤ b + 1 ∧ b + 1 - i ≤ g1 + 1 ∧ Hid (Sw a b L Li) ∧ Hid (So s Li a i) ∧ Hid (SR w0 g c Li wr))
  case atStart => exact ⟨a + 1, L, by go_num, by omega, by omega, by omega, Lib.hid (.refl _), Lib.hid (fun p q h1 h2 h3 => by omega), H0⟩
  case round =>
    obtain ⟨i, Li, rfl, hai, hib, hg1, HSW, HSO, HSR⟩ := hrel
    have hlen := HSW.out.len
    by_cases hlt : i < b
    · have hltz : (i : Int) < (b : Int) := by omega
      have HLEN := Lib.hid hlen
      clear hlen
      go_wp2_with fail
      go_loopg [9] i (fun g2 vj wr2 => ∃ (j : Nat) (Lj : List It), vj = .int .i64 (j : Int) ∧ a ≤ j ∧ j ≤ i ∧ j ≤ g2 ∧ Hid (Sw a b L Lj) ∧ Hid (Sx s Lj a j i) ∧ Hid (SR w0 g c Lj wr2))
      case atStart => exact ⟨i, Li, rfl, by omega, Nat.le_refl _, Nat.le_refl _, HSW, Lib.hid (Sx.start HSO.out), HSR⟩
      case round =>
        clear HSW HSO HSR HLEN
        obtain ⟨j, Lj, rfl, haj, hji, hg2, HSW, HSX, HSR⟩ := hrel
        have hlen := HSW.out.len
        by_cases hja : a < j
        · obtain ⟨jp, hjp⟩ : ∃ jp, j = jp + 1 := ⟨j - 1, by omega⟩
          have hd : decide ((j : Int) > (a : Int)) = true := decide_eq_true (by omega)
          have hjl : j < Lj.length := by omega
          have hjl1 : jp < Lj.length := by omega
          have hj0 : (0 : Int) ≤ (j : Int) := Int.natCast_nonneg _
          have hj1 : (j : Int) < (L.length : Int) := by omega
          have hp0 : (0 : Int) ≤ (jp : Int) := Int.natCast_nonneg _
          have hp1 : (jp : Int) < (L.length : Int) := by omega
          have hpe : (j : Int) - 1 = (jp : Int) := by omega
          have hdr := HSR.out.drew
          have EN := cmp_class (w0 := w0) (g := g) (c := c) (L := Lj) HC.out hne HS.out.1 HS.out.2 Lj[j]! Lj[jp]! (HOK.out _ (HSW.out.perm.mem_iff.1 (mem_at hjl))) (HOK.out _ (HSW.out.perm.mem_iff.1 (mem_at hjl1)))
          have f0 : ∀ x : WIn (SR w0 g c Lj), x.w.cell? ⟨g, j * 3, none⟩ = some (.int .i64 Lj[j]!.id) := fun x => (x.h.at_ hjl).1
          have f1 : ∀ x : WIn (SR w0 g c Lj), x.w.cell? ⟨g, j * 3 + 1, none⟩ = some (.int .i64 Lj[j]!.base) := fun x => (x.h.at_ hjl).2.1
          have f2 : ∀ x : WIn (SR w0 g c Lj), x.w.cell? ⟨g, j * 3 + 2, none⟩ = some (.int .i64 Lj[j]!.since) := fun x => (x.h.at_ hjl).2.2
          have p0 : ∀ x : WIn (SR w0 g c Lj), x.w.cell? ⟨g, jp * 3, none⟩ = some (.int .i64 Lj[jp]!.id) := fun x => (x.h.at_ hjl1).1
          have p1 : ∀ x : WIn (SR w0 g c Lj), x.w.cell? ⟨g, jp * 3 + 1, none⟩ = some (.int .i64 Lj[jp]!.base) := fun x => (x.h.at_ hjl1).2.1
          have p2 : ∀ x : WIn (SR w0 g c Lj), x.w.cell? ⟨g, jp * 3 + 2, none⟩ = some (.int .i64 Lj[jp]!.since) := fun x => (x.h.at_ hjl1).2.2
          haveI : Nonempty (WIn (SR w0 g c Lj)) := ⟨⟨_, hdr⟩⟩
          have HJP := Lib.hid hjp
          clear hjp
          have HAH := Lib.hid (cmpL_ah s Lj[j]! Lj[jp]!)
          obtain ⟨x, hx⟩ : ∃ x, x = Lj[j]! := ⟨_, rfl⟩
          obtain ⟨y, hy⟩ : ∃ y, y = Lj[jp]! := ⟨_, rfl⟩
          have HX := Lib.hid hx
          have HY := Lib.hid hy
          rw [← hx, ← hy] at EN HAH
          rw [← hx] at f0 f1 f2
          rw [← hy] at p0 p1 p2
          clear hx hy
          obtain ⟨xi, xb, xs⟩ := x
          obtain ⟨yi, yb, ys⟩ := y
          simp only at f0 f1 f2 p0 p1 p2
          generalize cmpL s ⟨xi, xb, xs⟩ ⟨yi, yb, ys⟩ = cc at *
          have HL := Lib.hid (And.intro hlen (And.intro hjl (And.intro hjl1 hja)))
          clear hlen hjl hjl1
          go_upto_region 4 with fail
          go_cut [34] from 18 to 52 (fun t wc => t = .bool (decide (cc < 0)) ∧ Hid (SR w0 g c Lj wc))
          case first =>
            refine wp_region_class (SR w0 g c Lj) (by kernel_rfl) (by kernel_rfl) hdr ?_
            repeat (go_big_quiet_step (exact EN _))
            refine wpQuiet_nil ?_
            rintro _ ⟨⟨wq, hwq⟩, rfl⟩
            go_wp2_with fail
            go_meet
            exact ⟨rfl, Lib.hid hwq⟩
          case rest =>
            obtain ⟨rfl, HSR2⟩ := hcut
            clear f0 f1 f2 p0 p1 p2 EN hdr HSR
            cases hcc : decide (cc < 0) with
            | true =>
              have hmx := mixed
              obtain ⟨hl1, hl2, hl3, hl4⟩ := HL.out
              obtain ⟨⟨x0, x1, x2⟩, fx0, fx1, fx2⟩ := row_at HSR2.out.r hl2 rfl
              obtain ⟨⟨y0, y1, y2⟩, fy0, fy1, fy2⟩ := row_at HSR2.out.r hl3 rfl
              rw [← HX.out] at x0 x1 x2
              rw [← HY.out] at y0 y1 y2
              simp only at x0 x1 x2 y0 y1 y2
              have n00 : ¬ j * 3 = jp * 3 := by have := HJP.out; omega
              have m00 : ¬ jp * 3 = j * 3 := by have := HJP.out; omega
              have n01 : ¬ j * 3 = jp * 3 + 1 := by have := HJP.out; omega
              have m01 : ¬ jp * 3 + 1 = j * 3 := by have := HJP.out; omega
              have n02 : ¬ j * 3 = jp * 3 + 2 := by have := HJP.out; omega
              have m02 : ¬ jp * 3 + 2 = j * 3 := by have := HJP.out; omega
              have n10 : ¬ j * 3 + 1 = jp * 3 := by have := HJP.out; omega
              have m10 : ¬ jp * 3 = j * 3 + 1 := by have := HJP.out; omega
              have n11 : ¬ j * 3 + 1 = jp * 3 + 1 := by have := HJP.out; omega
              have m11 : ¬ jp * 3 + 1 = j * 3 + 1 := by have := HJP.out; omega
              have n12 : ¬ j * 3 + 1 = jp * 3 + 2 := by have := HJP.out; omega
              have m12 : ¬ jp * 3 + 2 = j * 3 + 1 := by have := HJP.out; omega
              have n20 : ¬ j * 3 + 2 = jp * 3 := by have := HJP.out; omega
              have m20 : ¬ jp * 3 = j * 3 + 2 := by have := HJP.out; omega
              have n21 : ¬ j * 3 + 2 = jp * 3 + 1 := by have := HJP.out; omega
              have m21 : ¬ jp * 3 + 1 = j * 3 + 2 := by have := HJP.out; omega
              have n22 : ¬ j * 3 + 2 = jp * 3 + 2 := by have := HJP.out; omega
              have m22 : ¬ jp * 3 + 2 = j * 3 + 2 := by have := HJP.out; omega
              have hgl := HSR2.out.lt
              clear hl1 hl2 hl3 hl4
              go_upto_region 6 with fail
              have dx0 : wc.drew.cell? ⟨g, j * 3, none⟩ = some (.int .i64 xi) := x0
              have dxf0 : wc.drew.frozen? ⟨g, j * 3, none⟩ = false := fx0
              have dx1 : wc.drew.cell? ⟨g, j * 3 + 1, none⟩ = some (.int .i64 xb) := x1
              have dxf1 : wc.drew.frozen? ⟨g, j * 3 + 1, none⟩ = false := fx1
              have dx2 : wc.drew.cell? ⟨g, j * 3 + 2, none⟩ = some (.int .i64 xs) := x2
              have dxf2 : wc.drew.frozen? ⟨g, j * 3 + 2, none⟩ = false := fx2
              have dy0 : wc.drew.cell? ⟨g, jp * 3, none⟩ = some (.int .i64 yi) := y0
              have dyf0 : wc.drew.frozen? ⟨g, jp * 3, none⟩ = false := fy0
              have dy1 : wc.drew.cell? ⟨g, jp * 3 + 1, none⟩ = some (.int .i64 yb) := y1
              have dyf1 : wc.drew.frozen? ⟨g, jp * 3 + 1, none⟩ = false := fy1
              have dy2 : wc.drew.cell? ⟨g, jp * 3 + 2, none⟩ = some (.int .i64 ys) := y2
              have dyf2 : wc.drew.frozen? ⟨g, jp * 3 + 2, none⟩ = false := fy2
              have hgd : g < wc.drew.heap.size := hgl
              go_big_region_o
              have HSR3 : Hid (SR w0 g c (sw Lj j jp) (put3 (put3 wc g (j * 3) ⟨yi, yb, ys⟩) g (jp * 3) ⟨xi, xb, xs⟩).drew) := Lib.hid (by
                have h9 := (HSR2.out.swap HL.out.2.1 HL.out.2.2.1).drew
                rw [← HX.out, ← HY.out] at h9
                exact h9)
              clear x0 x1 x2 y0 y1 y2 fx0 fx1 fx2 fy0 fy1 fy2 dx0 dx1 dx2 dy0 dy1 dy2 dxf0 dxf1 dxf2 dyf0 dyf1 dyf2 n00 m00 n01 m01 n02 m02 n10 m10 n11 m11 n12 m12 n20 m20 n21 m21 n22 m22 hgl hgd
              go_wp2_with fail
              have HSW2 : Hid (Sw a b L (sw Lj j jp)) := Lib.hid (.step HSW.out ⟨haj, by omega⟩ (by have := HJP.out; omega) (by rw [HL.out.1]; exact hbl))
              have HSX2 : Hid (Sx s (sw Lj j jp) a jp i) := Lib.hid (by
                have h9 := Sx.step HSX.out hja hji (by rw [HL.out.1]; omega) (by
                  have e1 : j - 1 = jp := by have := HJP.out; omega
                  rw [e1, ← HX.out, ← HY.out, ← HAH.out]; exact hcc)
                have e1 : j - 1 = jp := by have := HJP.out; omega
                rw [e1] at h9
                exact h9)
              go_roundg jp
              case measure => (have := HJP.out; omega)
              case rel => exact ⟨jp, sw Lj j jp, by go_num, by have := HJP.out; omega, by have := HJP.out; omega, Nat.le_refl _, HSW2, HSX2, HSR3⟩
            | false =>
              have HSR3 := HSR2
              go_wp2_with fail
              have HSO2 : Hid (So s Lj a (i + 1)) := Lib.hid (Sx.stop HSX.out hji (.inr (by have e1 : j - 1 = jp := (by have := HJP.out; omega); rw [e1, ← HX.out, ← HY.out, ← HAH.out]; exact hcc)))
              go_roundg (b - (i + 1))
              case measure => omega
              case rel => exact ⟨i + 1, Lj, by go_num, by omega, by omega, by omega, HSW, HSO2, HSR3⟩
        · have hd : decide ((j : Int) > (a : Int)) = false := decide_eq_false (by omega)
          have hdr := HSR.out.drew
          haveI : Nonempty (WIn (SR w0 g c Lj)) := ⟨⟨_, hdr⟩⟩
          go_upto_region 4 with fail
          go_cut [34] from 18 to 52 (fun t wc => t = .bool false ∧ Hid (SR w0 g c Lj wc))
          case first =>
            refine wp_region_class (SR w0 g c Lj) (by kernel_rfl) (by kernel_rfl) hdr ?_
            repeat (go_big_quiet_step (fail))
            refine wpQuiet_nil ?_
            rintro _ ⟨⟨wq, hwq⟩, rfl⟩
            go_wp2_with fail
            go_meet
            exact ⟨rfl, Lib.hid hwq⟩
          case rest =>
            obtain ⟨rfl, HSR3⟩ := hcut
            clear hdr
            go_wp2_with fail
            have HSO2 : Hid (So s Lj a (i + 1)) := Lib.hid (Sx.stop HSX.out hji (.inl (by omega)))
            go_roundg (b - (i + 1))
            case measure => omega
            case rel => exact ⟨i + 1, Lj, by go_num, by omega, by omega, by omega, HSW, HSO2, HSR3⟩
    · have hlt2 : ¬ (i : Int) < (b : Int) := by omega
      have HSO2 : Hid (So s Li a b) := Lib.hid (fun p q h1 h2 h3 => HSO.out p q h1 h2 (by omega))
      go_wp2_with fail
      go_end0
      exact ⟨rfl, Li, HSW.out, HSO2.out, HSR.out⟩
end Go.Proofs.Ytcipgjelbnmdiaa.HP
