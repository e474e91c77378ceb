/-
  A row that is sorted in place: what stays, what may be said of it; plainly: the insertion sort. Contract of slices.insertionSortCmpFunc at items. The library's contracts of bits.Len and its like, laid at this program's numbers. Contracts of slices.SortFunc, slices.SortedFunc at items, and of heap.List: over the contract of pdqsortCmpFunc. Contracts of slices.SortedFunc at items, and of heap.List.
-/
import Derived.Test.YteakneekoogmmaaHcah
import Derived.BigQuiet
import Derived.Deep.CutRange
import Derived.Deep.LoopGhost
import Derived.Shelf.RegionOpenPlain
import Derived.Shelf.Small.Bits
import Derived.Test.YteakneekoogmmaaProg
import Derived.Deep.CutBlock
namespace Go.Proofs.Yteakneekoogmmaa.HP
open Go.RowKit Go.Shelf Go.Proofs.Yteakneekoogmmaa.B
/-- What comes of a list by exchanges of places from a on, below b. -/
inductive Sw (a b : Nat) : List It → List It → Prop
  | refl (L : List It) : Sw a b L L
  | step {L L' : List It} {i j : Nat} (h : Sw a b L L') (hi : a ≤ i ∧ i < b) (hj : a ≤ j ∧ j < b) (hb : b ≤ L'.length) : Sw a b L (sw L' i j)
theorem Sw.len {a b : Nat} {L L' : List It} (h : Sw a b L L') : L'.length = L.length := by
  induction h with
  | refl => rfl
  | step _ _ _ _ ih => rw [sw_len, ih]
theorem Sw.perm {a b : Nat} {L L' : List It} (h : Sw a b L L') : L'.Perm L := by
  induction h with
  | refl => exact List.Perm.refl _
  | step _ hi hj hb ih => exact (sw_perm (by omega) (by omega)).trans ih
theorem Sw.out {a b : Nat} {L L' : List It} (h : Sw a b L L') : ∀ k, ¬ (a ≤ k ∧ k < b) → L'[k]! = L[k]! := by
  induction h with
  | refl => exact fun _ _ => rfl
  | step _ hi hj hb ih =>
    intro k hk
    rw [sw_at (by omega) (by omega), if_neg (by omega), if_neg (by omega)]
    exact ih k hk
theorem Sw.inn {a b : Nat} {L L' : List It} (h : Sw a b L L') : ∀ k, a ≤ k → k < b → ∃ m, a ≤ m ∧ m < b ∧ L'[k]! = L[m]! := by
  induction h with
  | refl => exact fun k h1 h2 => ⟨k, h1, h2, rfl⟩
  | step _ hi hj hb ih =>
    intro k h1 h2
    rw [sw_at (by omega) (by omega)]
    split
    · exact ih _ hi.1 hi.2
    · split
      · exact ih _ hj.1 hj.2
      · exact ih k h1 h2
theorem Sw.trans {a b : Nat} {L L' L'' : List It} (h : Sw a b L L') (k : Sw a b L' L'') : Sw a b L L'' := by
  induction k with
  | refl => exact h
  | step _ hi hj hb ih => exact .step ih hi hj hb
theorem Sw.mono {a b a' b' : Nat} {L L' : List It} (h : Sw a b L L') (ha : a' ≤ a) (hb : b ≤ b') (hl : b' ≤ L.length) : Sw a' b' L L' := by
  induction h with
  | refl => exact .refl _
  | step hs hi hj _ ih => exact .step ih ⟨by omega, by omega⟩ ⟨by omega, by omega⟩ (by rw [hs.len]; exact hl)
/-- In order from a on, below b. -/
def So (s : Int) (L : List It) (a b : Nat) : Prop := ∀ p q, a ≤ p → p < q → q < b → le s L[p]! L[q]!
/-- In order but for one place. -/
def Sx (s : Int) (L : List It) (a j i : Nat) : Prop := ∀ p q, a ≤ p → p < q → q ≤ i → q ≠ j → le s L[p]! L[q]!
theorem Sx.start {s : Int} {L : List It} {a i : Nat} (h : So s L a i) : Sx s L a i i := fun p q h1 h2 h3 h4 => h p q h1 h2 (by omega)
theorem Sx.stop {s : Int} {L : List It} {a j i : Nat} (h : Sx s L a j i) (hj : j ≤ i) (hs : j = a ∨ ahB s L[j]! L[j - 1]! = false) : So s L a (i + 1) := by
  intro p q h1 h2 h3
  by_cases e : q = j
  · rcases hs with hs | hs
    · omega
    · by_cases e2 : p = j - 1
      · rw [e, e2]; exact hs
      · rw [e]
        exact le_trans (h p (j - 1) h1 (by omega) (by omega) (by omega)) hs
  · exact h p q h1 h2 (by omega) e
theorem Sx.step {s : Int} {L : List It} {a j i : Nat} (h : Sx s L a j i) (ha : a < j) (hj : j ≤ i) (hi : i < L.length) (hs : ahB s L[j]! L[j - 1]! = true) : Sx s (sw L j (j - 1)) a (j - 1) i := by
  intro p q h1 h2 h3 h4
  have hle := le_of_ah hs
  rw [sw_at (by omega) (by omega), sw_at (by omega) (by omega)]
  by_cases e1 : q = j
  · rw [if_neg (show ¬ q = j - 1 by omega), if_pos e1]
    by_cases e2 : p = j - 1
    · rw [if_pos e2]; exact hle
    · rw [if_neg e2, if_neg (by omega)]
      exact h p (j - 1) h1 (by omega) (by omega) (by omega)
  · rw [if_neg h4, if_neg e1]
    by_cases e2 : p = j - 1
    · rw [if_pos e2]
      exact h j q (by omega) (by omega) h3 e1
    · rw [if_neg e2]
      by_cases e3 : p = j
      · rw [if_pos e3]
        exact h (j - 1) q (by omega) (by omega) h3 e1
      · rw [if_neg e3]
        exact h p q h1 h2 h3 e1
/-- A row of one's own that is sorted in place: all else is as it was. -/
structure SR (w0 : World) (g c : Nat) (L : List It) (w : World) : Prop where
  k : Kept ⟨w0, fun q => q = g⟩ w
  r : w.ownsRow 0 32 3 (.slice (some ⟨g, 0, none⟩) L.length c) L.length (L.flatMap itC)
theorem SR.call {w0 w w' : World} {g c : Nat} {L : List It} (h : SR w0 g c L w) (hb : Below w.heap.size w w') : SR w0 g c L w' := ⟨h.k.call hb, own_below h.r hb⟩
theorem SR.drew {w0 w : World} {g c : Nat} {L : List It} (h : SR w0 g c L w) : SR w0 g c L w.drew := ⟨h.k.drew, h.r.drew⟩
theorem SR.at_ {w0 w : World} {g c : Nat} {L : List It} (h : SR w0 g c L w) {i : Nat} (hi : i < L.length) : w.cell? ⟨g, i * 3, none⟩ = some (.int .i64 L[i]!.id) ∧ w.cell? ⟨g, i * 3 + 1, none⟩ = some (.int .i64 L[i]!.base) ∧ w.cell? ⟨g, i * 3 + 2, none⟩ = some (.int .i64 L[i]!.since) := (row_at h.r hi rfl).1
/-- The heap's step is where it was. -/
theorem SR.step {w0 w : World} {g c : Nat} {L : List It} (h : SR w0 g c L w) {hb : Nat} {v : Value} (hc : w0.cell? ⟨hb, 0, none⟩ = some v) (hne : hb ≠ g) : w.cell? ⟨hb, 0, none⟩ = some v :=
  (World.cell?_of_block (w := w0) (h.k.block hb (World.block_lt_of_cell? _ _ hc) hne)).trans hc
/-- An exchange. -/
theorem SR.swap {w0 w : World} {g c : Nat} {L : List It} (h : SR w0 g c L w) {i j : Nat} (hi : i < L.length) (hj : j < L.length) : SR w0 g c (sw L i j) (put3 (put3 w g (i * 3) L[j]!) g (j * 3) L[i]!) := by
  refine ⟨(h.k.put3 (.inl rfl) _ _).put3 (.inl rfl) _ _, ?_⟩
  have h1 := row_put h.r hi L[j]!
  have h2 := row_put (L := L.set i L[j]!) h1 (i := j) (by rw [List.length_set]; exact hj) L[i]!
  rw [sw_len]
  exact h2
theorem SR.lt {w0 w : World} {g c : Nat} {L : List It} (h : SR w0 g c L w) : g < w.heap.size := by
  rcases h.r.2 with ⟨hv, _⟩ | ⟨g', cap, cur, hv, _, hg, _⟩
  · cases hv
  · injection hv with e _ _
    injection e with e
    injection e with e _ _
    rw [e]; exact blk_lt hg
/-- A call of compare, from whatever world of the class. -/
theorem cmp_class {w0 : World} {g c hb : Nat} {s : Int} {L : List It} (hc : w0.cell? ⟨hb, 0, none⟩ = some (.int .i64 s)) (hne : hb ≠ g) (h1 : 1 ≤ s) (h2 : s ≤ 1048576) (x y : It) (hx : OkI x) (hy : OkI y) :
    ∀ z : WIn (SR w0 g c L), Calls Try.prog 30 #[pt hb, itV x, itV y] z.w fun e w'' => e = .returned (.int .i64 (cmpL s x y)) ∧ ∃ z' : WIn (SR w0 g c L), w'' = z'.w :=
  class_call (fun _ _ h hb => h.call hb) (fun W h => compare_any W hb s (h.step hc hne) h1 h2 x y hx hy)
end Go.Proofs.Yteakneekoogmmaa.HP

namespace Go.Proofs.Yteakneekoogmmaa.HP
open Go.RowKit Go.Shelf Go.Proofs.Yteakneekoogmmaa.B
attribute [local go_sem] Oper.semAt_some
/-- heap.compare, bound to a heap. -/
abbrev fv (h : Nat) : Value := .func (.func 30) #[pt h] #[]
set_option maxRecDepth 100000 in
set_option maxHeartbeats 4000000 in
theorem ins_any (w0 w : World) (g c hh : Nat) (s : Int) (L : List It) (h : SR w0 g c L w) (hok : ∀ x ∈ L, OkI x) (hc : w0.cell? ⟨hh, 0, none⟩ = some (.int .i64 s)) (hne : hh ≠ g) (h1 : 1 ≤ s) (h2 : s ≤ 1048576)
    (a b : Nat) (hab : a ≤ b) (hbl : b ≤ L.length) (hl : L.length ≤ 100000) :
    Calls Try.prog 42 #[.slice (some ⟨g, 0, none⟩) L.length c, .int .i64 (a : Int), .int .i64 (b : Int), fv hh] w fun e w' => e = .returned (.tuple #[]) ∧ ∃ L', Sw a b L L' ∧ So s L' a b ∧ SR w0 g c L' w' := by
  have HOK := Lib.hid hok
  have HC := Lib.hid hc
  have HS := Lib.hid (And.intro h1 h2)
  have H0 := Lib.hid h
  clear hok hc h1 h2 h
  go_enter Try.func42, Try.ntmps42
  go_wp2_with fail
  go_loopg [8] (b - a) (fun g1 vi wr => ∃ (i : Nat) (Li : List It), vi = .int .i64 (i : Int) ∧ a < i ∧ i ≤ b + 1 ∧ b + 1 - i ≤ g1 + 1 ∧ Hid (Sw a b L Li) ∧ Hid (So s Li a i) ∧ Hid (SR w0 g c Li wr))
  case atStart => exact ⟨a + 1, L, by go_num, by omega, by omega, by omega, Lib.hid (.refl _), Lib.hid (fun p q h1 h2 h3 => by omega), H0⟩
  case round =>
    obtain ⟨i, Li, rfl, hai, hib, hg1, HSW, HSO, HSR⟩ := hrel
    have hlen := HSW.out.len
    by_cases hlt : i < b
    · have hltz : (i : Int) < (b : Int) := by omega
      have HLEN := Lib.hid hlen
      clear hlen
      go_wp2_with fail
      go_loopg [9] i (fun g2 vj wr2 => ∃ (j : Nat) (Lj : List It), vj = .int .i64 (j : Int) ∧ a ≤ j ∧ j ≤ i ∧ j ≤ g2 ∧ Hid (Sw a b L Lj) ∧ Hid (Sx s Lj a j i) ∧ Hid (SR w0 g c Lj wr2))
      case atStart => exact ⟨i, Li, rfl, by omega, Nat.le_refl _, Nat.le_refl _, HSW, Lib.hid (Sx.start HSO.out), HSR⟩
      case round =>
        clear HSW HSO HSR HLEN
        obtain ⟨j, Lj, rfl, haj, hji, hg2, HSW, HSX, HSR⟩ := hrel
        have hlen := HSW.out.len
        by_cases hja : a < j
        · obtain ⟨jp, hjp⟩ : ∃ jp, j = jp + 1 := ⟨j - 1, by omega⟩
          have hd : decide ((j : Int) > (a : Int)) = true := decide_eq_true (by omega)
          have hjl : j < Lj.length := by omega
          have hjl1 : jp < Lj.length := by omega
          have hj0 : (0 : Int) ≤ (j : Int) := Int.natCast_nonneg _
          have hj1 : (j : Int) < (L.length : Int) := by omega
          have hp0 : (0 : Int) ≤ (jp : Int) := Int.natCast_nonneg _
          have hp1 : (jp : Int) < (L.length : Int) := by omega
          have hpe : (j : Int) - 1 = (jp : Int) := by omega
          have hdr := HSR.out.drew
          have EN := cmp_class (w0 := w0) (g := g) (c := c) (L := Lj) HC.out hne HS.out.1 HS.out.2 Lj[j]! Lj[jp]! (HOK.out _ (HSW.out.perm.mem_iff.1 (mem_at hjl))) (HOK.out _ (HSW.out.perm.mem_iff.1 (mem_at hjl1)))
          have f0 : ∀ x : WIn (SR w0 g c Lj), x.w.cell? ⟨g, j * 3, none⟩ = some (.int .i64 Lj[j]!.id) := fun x => (x.h.at_ hjl).1
          have f1 : ∀ x : WIn (SR w0 g c Lj), x.w.cell? ⟨g, j * 3 + 1, none⟩ = some (.int .i64 Lj[j]!.base) := fun x => (x.h.at_ hjl).2.1
          have f2 : ∀ x : WIn (SR w0 g c Lj), x.w.cell? ⟨g, j * 3 + 2, none⟩ = some (.int .i64 Lj[j]!.since) := fun x => (x.h.at_ hjl).2.2
          have p0 : ∀ x : WIn (SR w0 g c Lj), x.w.cell? ⟨g, jp * 3, none⟩ = some (.int .i64 Lj[jp]!.id) := fun x => (x.h.at_ hjl1).1
          have p1 : ∀ x : WIn (SR w0 g c Lj), x.w.cell? ⟨g, jp * 3 + 1, none⟩ = some (.int .i64 Lj[jp]!.base) := fun x => (x.h.at_ hjl1).2.1
          have p2 : ∀ x : WIn (SR w0 g c Lj), x.w.cell? ⟨g, jp * 3 + 2, none⟩ = some (.int .i64 Lj[jp]!.since) := fun x => (x.h.at_ hjl1).2.2
          haveI : Nonempty (WIn (SR w0 g c Lj)) := ⟨⟨_, hdr⟩⟩
          have HJP := Lib.hid hjp
          clear hjp
          have HAH := Lib.hid (cmpL_ah s Lj[j]! Lj[jp]!)
          obtain ⟨x, hx⟩ : ∃ x, x = Lj[j]! := ⟨_, rfl⟩
          obtain ⟨y, hy⟩ : ∃ y, y = Lj[jp]! := ⟨_, rfl⟩
          have HX := Lib.hid hx
          have HY := Lib.hid hy
          rw [← hx, ← hy] at EN HAH
          rw [← hx] at f0 f1 f2
          rw [← hy] at p0 p1 p2
          clear hx hy
          obtain ⟨xi, xb, xs⟩ := x
          obtain ⟨yi, yb, ys⟩ := y
          simp only at f0 f1 f2 p0 p1 p2
          generalize cmpL s ⟨xi, xb, xs⟩ ⟨yi, yb, ys⟩ = cc at *
          have HL := Lib.hid (And.intro hlen (And.intro hjl (And.intro hjl1 hja)))
          clear hlen hjl hjl1
          go_upto_region 4 with fail
          go_cut [34] from 18 to 52 (fun t wc => t = .bool (decide (cc < 0)) ∧ Hid (SR w0 g c Lj wc))
          case first =>
            refine wp_region_class (SR w0 g c Lj) (by kernel_rfl) (by kernel_rfl) hdr ?_
            repeat (go_big_quiet_step (exact EN _))
            refine wpQuiet_nil ?_
            rintro _ ⟨⟨wq, hwq⟩, rfl⟩
            go_wp2_with fail
            go_meet
            exact ⟨rfl, Lib.hid hwq⟩
          case rest =>
            obtain ⟨rfl, HSR2⟩ := hcut
            clear f0 f1 f2 p0 p1 p2 EN hdr HSR
            cases hcc : decide (cc < 0) with
            | true =>
              have hmx := mixed
              obtain ⟨hl1, hl2, hl3, hl4⟩ := HL.out
              obtain ⟨⟨x0, x1, x2⟩, fx0, fx1, fx2⟩ := row_at HSR2.out.r hl2 rfl
              obtain ⟨⟨y0, y1, y2⟩, fy0, fy1, fy2⟩ := row_at HSR2.out.r hl3 rfl
              rw [← HX.out] at x0 x1 x2
              rw [← HY.out] at y0 y1 y2
              simp only at x0 x1 x2 y0 y1 y2
              have n00 : ¬ j * 3 = jp * 3 := by have := HJP.out; omega
              have m00 : ¬ jp * 3 = j * 3 := by have := HJP.out; omega
              have n01 : ¬ j * 3 = jp * 3 + 1 := by have := HJP.out; omega
              have m01 : ¬ jp * 3 + 1 = j * 3 := by have := HJP.out; omega
              have n02 : ¬ j * 3 = jp * 3 + 2 := by have := HJP.out; omega
              have m02 : ¬ jp * 3 + 2 = j * 3 := by have := HJP.out; omega
              have n10 : ¬ j * 3 + 1 = jp * 3 := by have := HJP.out; omega
              have m10 : ¬ jp * 3 = j * 3 + 1 := by have := HJP.out; omega
              have n11 : ¬ j * 3 + 1 = jp * 3 + 1 := by have := HJP.out; omega
              have m11 : ¬ jp * 3 + 1 = j * 3 + 1 := by have := HJP.out; omega
              have n12 : ¬ j * 3 + 1 = jp * 3 + 2 := by have := HJP.out; omega
              have m12 : ¬ jp * 3 + 2 = j * 3 + 1 := by have := HJP.out; omega
              have n20 : ¬ j * 3 + 2 = jp * 3 := by have := HJP.out; omega
              have m20 : ¬ jp * 3 = j * 3 + 2 := by have := HJP.out; omega
              have n21 : ¬ j * 3 + 2 = jp * 3 + 1 := by have := HJP.out; omega
              have m21 : ¬ jp * 3 + 1 = j * 3 + 2 := by have := HJP.out; omega
              have n22 : ¬ j * 3 + 2 = jp * 3 + 2 := by have := HJP.out; omega
              have m22 : ¬ jp * 3 + 2 = j * 3 + 2 := by have := HJP.out; omega
              have hgl := HSR2.out.lt
              clear hl1 hl2 hl3 hl4
              go_upto_region 6 with fail
              have dx0 : wc.drew.cell? ⟨g, j * 3, none⟩ = some (.int .i64 xi) := x0
              have dxf0 : wc.drew.frozen? ⟨g, j * 3, none⟩ = false := fx0
              have dx1 : wc.drew.cell? ⟨g, j * 3 + 1, none⟩ = some (.int .i64 xb) := x1
              have dxf1 : wc.drew.frozen? ⟨g, j * 3 + 1, none⟩ = false := fx1
              have dx2 : wc.drew.cell? ⟨g, j * 3 + 2, none⟩ = some (.int .i64 xs) := x2
              have dxf2 : wc.drew.frozen? ⟨g, j * 3 + 2, none⟩ = false := fx2
              have dy0 : wc.drew.cell? ⟨g, jp * 3, none⟩ = some (.int .i64 yi) := y0
              have dyf0 : wc.drew.frozen? ⟨g, jp * 3, none⟩ = false := fy0
              have dy1 : wc.drew.cell? ⟨g, jp * 3 + 1, none⟩ = some (.int .i64 yb) := y1
              have dyf1 : wc.drew.frozen? ⟨g, jp * 3 + 1, none⟩ = false := fy1
              have dy2 : wc.drew.cell? ⟨g, jp * 3 + 2, none⟩ = some (.int .i64 ys) := y2
              have dyf2 : wc.drew.frozen? ⟨g, jp * 3 + 2, none⟩ = false := fy2
              have hgd : g < wc.drew.heap.size := hgl
              go_big_region_o
              have HSR3 : Hid (SR w0 g c (sw Lj j jp) (put3 (put3 wc g (j * 3) ⟨yi, yb, ys⟩) g (jp * 3) ⟨xi, xb, xs⟩).drew) := Lib.hid (by
                have h9 := (HSR2.out.swap HL.out.2.1 HL.out.2.2.1).drew
                rw [← HX.out, ← HY.out] at h9
                exact h9)
              clear x0 x1 x2 y0 y1 y2 fx0 fx1 fx2 fy0 fy1 fy2 dx0 dx1 dx2 dy0 dy1 dy2 dxf0 dxf1 dxf2 dyf0 dyf1 dyf2 n00 m00 n01 m01 n02 m02 n10 m10 n11 m11 n12 m12 n20 m20 n21 m21 n22 m22 hgl hgd
              go_wp2_with fail
              have HSW2 : Hid (Sw a b L (sw Lj j jp)) := Lib.hid (.step HSW.out ⟨haj, by omega⟩ (by have := HJP.out; omega) (by rw [HL.out.1]; exact hbl))
              have HSX2 : Hid (Sx s (sw Lj j jp) a jp i) := Lib.hid (by
                have h9 := Sx.step HSX.out hja hji (by rw [HL.out.1]; omega) (by
                  have e1 : j - 1 = jp := by have := HJP.out; omega
                  rw [e1, ← HX.out, ← HY.out, ← HAH.out]; exact hcc)
                have e1 : j - 1 = jp := by have := HJP.out; omega
                rw [e1] at h9
                exact h9)
              go_roundg jp
              case measure => (have := HJP.out; omega)
              case rel => exact ⟨jp, sw Lj j jp, by go_num, by have := HJP.out; omega, by have := HJP.out; omega, Nat.le_refl _, HSW2, HSX2, HSR3⟩
            | false =>
              have HSR3 := HSR2
              go_wp2_with fail
              have HSO2 : Hid (So s Lj a (i + 1)) := Lib.hid (Sx.stop HSX.out hji (.inr (by have e1 : j - 1 = jp := (by have := HJP.out; omega); rw [e1, ← HX.out, ← HY.out, ← HAH.out]; exact hcc)))
              go_roundg (b - (i + 1))
              case measure => omega
              case rel => exact ⟨i + 1, Lj, by go_num, by omega, by omega, by omega, HSW, HSO2, HSR3⟩
        · have hd : decide ((j : Int) > (a : Int)) = false := decide_eq_false (by omega)
          have hdr := HSR.out.drew
          haveI : Nonempty (WIn (SR w0 g c Lj)) := ⟨⟨_, hdr⟩⟩
          go_upto_region 4 with fail
          go_cut [34] from 18 to 52 (fun t wc => t = .bool false ∧ Hid (SR w0 g c Lj wc))
          case first =>
            refine wp_region_class (SR w0 g c Lj) (by kernel_rfl) (by kernel_rfl) hdr ?_
            repeat (go_big_quiet_step (fail))
            refine wpQuiet_nil ?_
            rintro _ ⟨⟨wq, hwq⟩, rfl⟩
            go_wp2_with fail
            go_meet
            exact ⟨rfl, Lib.hid hwq⟩
          case rest =>
            obtain ⟨rfl, HSR3⟩ := hcut
            clear hdr
            go_wp2_with fail
            have HSO2 : Hid (So s Lj a (i + 1)) := Lib.hid (Sx.stop HSX.out hji (.inl (by omega)))
            go_roundg (b - (i + 1))
            case measure => omega
            case rel => exact ⟨i + 1, Lj, by go_num, by omega, by omega, by omega, HSW, HSO2, HSR3⟩
    · have hlt2 : ¬ (i : Int) < (b : Int) := by omega
      have HSO2 : Hid (So s Li a b) := Lib.hid (fun p q h1 h2 h3 => HSO.out p q h1 h2 (by omega))
      go_wp2_with fail
      go_end0
      exact ⟨rfl, Li, HSW.out, HSO2.out, HSR.out⟩
end Go.Proofs.Yteakneekoogmmaa.HP

namespace Go.Proofs.Yteakneekoogmmaa.HP.S
open Go.Shelf
def lays125_ren : Go.Shelf.Ren := ⟨fun | 125 => 40 | 128 => 50 | 129 => 51 | n => n, fun | 46 => 85 | 3 => 3 | 51 => 55 | 53 => 96 | 4 => 4 | 5 => 5 | 9 => 9 | n => n, fun | n => n⟩
theorem lays125 : Go.Proofs.Lays.n125 Try.prog lays125_ren := {
  mixed := by kernel_rfl
  f125 := Try.func40.trans (congrArg some (by kernel_rfl))
  f128 := Try.func50.trans (congrArg some (by kernel_rfl))
  f129 := Try.func51.trans (congrArg some (by kernel_rfl))
  t3 := Try.underlying3
  a3 := Try.isAgg3
  z3 := Try.sizeOf3
  v3 := Try.zeroValue3
  t4 := Try.underlying4
  a4 := Try.isAgg4
  z4 := Try.sizeOf4
  v4 := Try.zeroValue4
  t5 := Try.underlying5
  a5 := Try.isAgg5
  z5 := Try.sizeOf5
  v5 := Try.zeroValue5
  t9 := Try.underlying9
  a9 := Try.isAgg9
  z9 := Try.sizeOf9
  v9 := Try.zeroValue9
  t46 := Try.underlying85
  a46 := Try.isAgg85
  z46 := Try.sizeOf85
  v46 := Try.zeroValue85
  t51 := Try.underlying55
  a51 := Try.isAgg55
  z51 := Try.sizeOf55
  v51 := Try.zeroValue55
  t53 := Try.underlying96
  a53 := Try.isAgg96
  z53 := Try.sizeOf96
  v53 := Try.zeroValue96 }
theorem bits_Len (x : Int) (w : World) (h0 : 0 ≤ x) (h1 : x ≤ 18446744073709551615) :
    Calls Try.prog 40 #[.int .u64 x] w fun e w' => e = .returned (.int .i64 (Lib.bitLen x.toNat)) ∧ w' = w := Any.bits_Len lays125 x w h0 h1
end Go.Proofs.Yteakneekoogmmaa.HP.S

namespace Go.Proofs.Yteakneekoogmmaa.HP
open Go.RowKit Go.Shelf Go.Proofs.Yteakneekoogmmaa.B
attribute [local go_sem] Oper.semAt_some
/-- What pdqsortCmpFunc owes: whatever the limit, the whole row comes in order. -/
def PdqC (w0 : World) (g c hh : Nat) (s : Int) (L : List It) : Prop :=
  ∀ (w : World) (lim : Int), SR w0 g c L w → Calls Try.prog 39 #[.slice (some ⟨g, 0, none⟩) L.length c, .int .i64 0, .int .i64 (L.length : Int), .int .i64 lim, fv hh] w fun e w' =>
    e = .returned (.tuple #[]) ∧ ∃ L', Sw 0 L.length L L' ∧ So s L' 0 L.length ∧ SR w0 g c L' w'
set_option maxRecDepth 100000 in
set_option maxHeartbeats 2000000 in
theorem pdq_small (w0 : World) (g c hh : Nat) (s : Int) (L : List It) (hok : ∀ x ∈ L, OkI x) (hc : w0.cell? ⟨hh, 0, none⟩ = some (.int .i64 s)) (hne : hh ≠ g) (h1 : 1 ≤ s) (h2 : s ≤ 1048576) (hl : L.length ≤ 12) : PdqC w0 g c hh s L := by
  intro w lim h
  have CI := Lib.hid (ins_any w0 w g c hh s L h hok hc hne h1 h2 0 L.length (Nat.zero_le _) (Nat.le_refl _) (by omega))
  clear h hok hc h1 h2
  go_enter Try.func39, Try.ntmps39
  go_wp2_with fail
  go_loopw [1, 2] (fun x1 x2 wr => wr = w ∧ x1 = .int .i64 0 ∧ x2 = .int .i64 (L.length : Int)) (fun _ _ _ => 0)
  case atStart => exact ⟨rfl, rfl, rfl⟩
  case round =>
    obtain ⟨rfl, rfl, rfl⟩ := hrel
    have hl' : (L.length : Int) ≤ 12 := by omega
    go_wp2_with fail
    refine CI.out.mono ?_
    rintro e w' ⟨rfl, L', q1, q2, q3⟩
    have HQ := Lib.hid (And.intro q1 (And.intro q2 q3))
    clear q1 q2 q3
    go_wp2_with fail
    refine bodyPost_ret (results_none rfl _ _ _) rfl ?_
    exact ⟨rfl, L', HQ.out⟩
set_option maxRecDepth 100000 in
set_option maxHeartbeats 2000000 in
theorem sortfunc_any (w0 w : World) (g c hh : Nat) (s : Int) (L : List It) (h : SR w0 g c L w) (hp : PdqC w0 g c hh s L) (hl : L.length ≤ 100000) :
    Calls Try.prog 34 #[.slice (some ⟨g, 0, none⟩) L.length c, fv hh] w fun e w' => e = .returned (.tuple #[]) ∧ ∃ L', Sw 0 L.length L L' ∧ So s L' 0 L.length ∧ SR w0 g c L' w' := by
  have CB := Lib.hid (S.bits_Len (L.length : Int) w (by omega) (by omega))
  have CP := Lib.hid (fun lim => hp w lim h)
  clear h hp
  go_enter Try.func34, Try.ntmps34
  go_wp2_with fail
  refine CB.out.mono ?_
  rintro e w' ⟨rfl, rfl⟩
  generalize ((Lib.bitLen ((L.length : Int).toNat) : Nat) : Int) = lim at *
  have CP1 := Lib.hid (CP.out lim)
  clear CP CB
  go_wp2_with fail
  refine CP1.out.mono ?_
  rintro e w' ⟨rfl, L', q1, q2, q3⟩
  have HQ := Lib.hid (And.intro q1 (And.intro q2 q3))
  clear q1 q2 q3
  go_wp2_with fail
  go_end0
  exact ⟨rfl, L', HQ.out⟩
set_option maxRecDepth 100000 in
set_option maxHeartbeats 2000000 in
/-- Of no element. -/
theorem ins_none (w : World) (A : Option Addr) (c : Nat) (f : Value) : Calls Try.prog 42 #[.slice A 0 c, .int .i64 0, .int .i64 0, f] w fun e w' => e = .returned (.tuple #[]) ∧ w = w' := by
  go_enter Try.func42, Try.ntmps42
  go_wp2_with fail
  go_loopw [8] (fun i wr => wr = w ∧ i = .int .i64 1) (fun _ _ => 0)
  case atStart => exact ⟨rfl, rfl⟩
  case round =>
    obtain ⟨rfl, rfl⟩ := hrel
    go_wp2_with fail
    go_end0
    exact ⟨rfl, rfl⟩
set_option maxRecDepth 100000 in
set_option maxHeartbeats 2000000 in
theorem sort_none (w : World) (A : Option Addr) (c : Nat) (f : Value) : Calls Try.prog 34 #[.slice A 0 c, f] w fun e w' => e = .returned (.tuple #[]) ∧ w = w' := by
  have CB := Lib.hid (S.bits_Len 0 w (by omega) (by omega))
  have CP : Hid (∀ lim : Int, Calls Try.prog 39 #[.slice A 0 c, .int .i64 0, .int .i64 0, .int .i64 lim, f] w fun e w' => e = .returned (.tuple #[]) ∧ w = w') := Lib.hid (fun lim => by
    have CI := Lib.hid (ins_none w A c f)
    clear CB
    go_enter Try.func39, Try.ntmps39
    go_wp2_with fail
    go_loopw [1, 2] (fun x1 x2 wr => wr = w ∧ x1 = .int .i64 0 ∧ x2 = .int .i64 0) (fun _ _ _ => 0)
    case atStart => exact ⟨rfl, rfl, rfl⟩
    case round =>
      obtain ⟨rfl, rfl, rfl⟩ := hrel
      go_wp2_with fail
      refine CI.out.mono ?_
      rintro e w' ⟨rfl, rfl⟩
      go_wp2_with fail
      refine bodyPost_ret (results_none rfl _ _ _) rfl ?_
      exact ⟨rfl, rfl⟩)
  go_enter Try.func34, Try.ntmps34
  go_wp2_with fail
  refine CB.out.mono ?_
  rintro e w' ⟨rfl, rfl⟩
  generalize ((Lib.bitLen (Int.toNat 0) : Nat) : Int) = lim at *
  have CP1 := Lib.hid (CP.out lim)
  clear CP CB
  go_wp2_with fail
  refine CP1.out.mono ?_
  rintro e w' ⟨rfl, rfl⟩
  go_wp2_with fail
  go_end0
  exact ⟨rfl, rfl⟩
end Go.Proofs.Yteakneekoogmmaa.HP

namespace Go.Proofs.Yteakneekoogmmaa.HP
open Go.RowKit Go.Shelf Go.Proofs.Yteakneekoogmmaa.B
attribute [local go_sem] Oper.semAt_some
/-- What SortedFunc leaves: a row of one's own, in order. -/
def LsP (w : World) (s : Int) (L : List It) (e : Ending) (w' : World) : Prop :=
  ∃ (a : Option Addr) (c : Nat) (S : List It), e = .returned (.slice a S.length c) ∧ S.Perm L ∧ So s S 0 S.length ∧ w'.ownsRow w.heap.size 32 3 (.slice a S.length c) S.length (S.flatMap itC) ∧ Below w.heap.size w w'
set_option maxRecDepth 100000 in
set_option maxHeartbeats 2000000 in
theorem sorted_any (w : World) (hh : Nat) (s : Int) (L : List It) (bx : Nat) (hl : L.length ≤ 100000) (hc : w.cell? ⟨hh, 0, none⟩ = some (.int .i64 s))
    (hseq : ∀ W4, Below w.heap.size w W4 → SeqStopsK Fence.wide 5 Try.prog 35 #[pt bx] (fun x : It => #[itV x]) (Below w.heap.size) (fun ys => ys = L) (fun _ => True) L.length W4)
    (hp : ∀ w0 g c, w0.cell? ⟨hh, 0, none⟩ = some (.int .i64 s) → hh ≠ g → PdqC w0 g c hh s L) :
    Calls Try.prog 28 #[.func (.func 35) #[] #[pt bx], fv hh] w (LsP w s L) := by
  have CC := Lib.hid (collect_any w 35 #[pt bx] (enters_of Try.func35 (by kernel_rfl) rfl) L hl hseq)
  have HP := Lib.hid hp
  have HC := Lib.hid hc
  clear hseq hp hc
  go_enter Try.func28, Try.ntmps28
  go_wp2_with fail
  refine CC.out.mono ?_
  rintro e w1 ⟨a, c, rfl, hr, hb⟩
  by_cases h0 : L = []
  · subst h0
    have CS := Lib.hid (sort_none w1 a c (fv hh))
    have HR := Lib.hid hr
    have HB := Lib.hid hb
    clear hr hb
    simp only [List.length_nil] at *
    go_wp2_with fail
    refine CS.out.mono ?_
    rintro e w' ⟨rfl, rfl⟩
    go_wp2_with fail
    go_ret
    exact ⟨a, c, [], rfl, List.Perm.refl _, fun p q h1 h2 h3 => by simp at h3, HR.out, HB.out⟩
  · have hpos : 0 < L.length := List.length_pos_iff.2 h0
    obtain ⟨g, c', e1, hg⟩ : ∃ g c', (Value.slice a L.length c = .slice (some ⟨g, 0, none⟩) L.length c') ∧ w.heap.size ≤ g := by
      rcases hr.2 with ⟨_, hn⟩ | ⟨g, cap, cur, hv, hB, _⟩
      · omega
      · exact ⟨g, cap, hv, hB⟩
    injection e1 with e1 _ e2
    subst e1 e2
    have hlc := World.block_lt_of_cell? _ _ HC.out
    have hhg : hh ≠ g := fun e => by
      have : hh < w.heap.size := hlc
      omega
    have hSR : SR w1 g c L w1 := ⟨Kept.refl _ _, own_base hr (Nat.zero_le _)⟩
    have CS := Lib.hid (sortfunc_any w1 w1 g c hh s L hSR (HP.out w1 g c ((hb.cell (p := ⟨hh, 0, none⟩) hlc).trans HC.out) hhg) hl)
    have HB := Lib.hid hb
    have HG := Lib.hid hg
    clear hr hb hSR hg
    go_wp2_with fail
    refine CS.out.mono ?_
    rintro e w2 ⟨rfl, S, q1, q2, q3⟩
    have hS : S.length = L.length := q1.len
    have HQ := Lib.hid (And.intro q1 (And.intro q2 q3))
    have HS := Lib.hid hS
    clear q1 q2 q3 hS
    go_wp2_with fail
    go_ret
    refine ⟨some ⟨g, 0, none⟩, c, S, by rw [HS.out]; rfl, HQ.out.1.perm, by rw [HS.out]; exact HQ.out.2.1, ?_, ?_⟩
    · have h3 := HQ.out.2.2.r
      refine ⟨h3.1, ?_⟩
      rcases h3.2 with ⟨hv, _⟩ | ⟨g', cap, cur, hv, _, k3, k4⟩
      · cases hv
      · have hv' := hv
        injection hv' with e3 _ _
        injection e3 with e3
        injection e3 with e3 _ _
        exact .inr ⟨g', cap, cur, hv, by rw [← e3]; exact HG.out, k3, k4⟩
    · have h3 := HQ.out.2.2.k
      have hbl : Below w.heap.size w1 w2 := ⟨h3.os, h3.tape, h3.output, h3.size, fun k hk => h3.block k (Nat.lt_of_lt_of_le hk HB.out.size) (fun e => by have := HG.out; have e' : k = g := e; omega)⟩
      exact HB.out.trans hbl
set_option maxRecDepth 100000 in
set_option maxHeartbeats 2000000 in
theorem list_any (w : World) (hb : Nat) (A : HA) (s : Int) (L : List It) (h : HpI w hb A s L) (hp : ∀ w0 g c, w0.cell? ⟨hb, 0, none⟩ = some (.int .i64 s) → hb ≠ g → PdqC w0 g c hb s L) :
    Calls Try.prog 22 #[pt hb] w (LsP w s L) := by
  obtain ⟨ia, ic, pb⟩ := A
  have hl := h.lt
  have hfew := h.few
  have c1 : w.cell? ⟨hb, 1, none⟩ = some (.slice ia L.length ic) := cell_blk (i := 1) h.box rfl
  have c0 : w.cell? ⟨hb, 0, none⟩ = some (.int .i64 s) := cell_blk (i := 0) h.box rfl
  obtain ⟨W1, hW1⟩ : ∃ W1, W1 = w.alloc (.cells #[.slice ia L.length ic] 51) := ⟨_, rfl⟩
  have hB1 : Below w.heap.size w W1 := (by rw [hW1]; exact (Below.refl _ _).alloc (Nat.le_refl _) _)
  have hx1 : W1.heap[w.heap.size]? = some (.cells #[.slice ia L.length ic] 51 (0, 0)) := (by rw [hW1]; exact heap_new w _)
  have hz1 : W1.heap.size = w.heap.size + 1 := (by rw [hW1, World.size_alloc])
  have hR : RowAt W1.heap.size W1 ia L := fun i hi => by
    obtain ⟨B, hr⟩ := h.row
    obtain ⟨b, off, hA, hbl, k0⟩ := (Row.of_own hr).at_ (k := 3) (fun _ => rfl) (by omega) hi
    have j0 := (hB1.cell (p := ⟨b, off + i * 3 + 0, none⟩) hbl).trans (k0 0 _ rfl)
    have j1 := (hB1.cell (p := ⟨b, off + i * 3 + 1, none⟩) hbl).trans (k0 1 _ rfl)
    have j2 := (hB1.cell (p := ⟨b, off + i * 3 + 2, none⟩) hbl).trans (k0 2 _ rfl)
    exact ⟨b, off, hA, by omega, j0, j1, j2⟩
  have CS := Lib.hid (sorted_any W1 hb s L w.heap.size (by omega) ((hB1.cell (p := ⟨hb, 0, none⟩) hl).trans c0) (fun W4 h4 => values_seq W4 ia ic L (by omega) 5 (by omega) w.heap.size W1.heap.size ((h4.block _ (by omega)).trans hx1) (by omega) h4.size (hR.keep h4)) hp)
  have CV := Lib.hid ((callsIn_wide (n := 5)).1 (values_mk 5 ia L.length ic w))
  have HB1 := Lib.hid hB1
  clear h hp hR hB1 hx1 hz1 c0
  go_enter Try.func22, Try.ntmps22
  go_wp2_with fail
  refine CV.out.mono ?_
  rintro e w' ⟨rfl, hw'⟩
  rw [← hW1] at hw'
  subst hw'
  clear hW1
  go_wp2_with fail
  refine CS.out.mono ?_
  rintro e w2 ⟨a, c, S, rfl, q1, q2, q3, q4⟩
  have HQ := Lib.hid (And.intro q1 (And.intro q2 (And.intro q3 q4)))
  clear q1 q2 q3 q4
  go_wp2_with fail
  go_ret
  exact ⟨a, c, S, rfl, HQ.out.1, HQ.out.2.1, own_base HQ.out.2.2.1 HB1.out.size, HB1.out.trans (HQ.out.2.2.2.mono HB1.out.size)⟩
end Go.Proofs.Yteakneekoogmmaa.HP
