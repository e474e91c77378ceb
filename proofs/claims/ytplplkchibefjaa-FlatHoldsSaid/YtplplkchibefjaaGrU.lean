/-
  Contract of the looker's gather: its four maps tell where each name, and each relation without its time, stands first.
-/
import Derived.Test.YtplplkchibefjaaGrT
import Derived.Test.YtplplkchibefjaaGrBgp
import Derived.Test.YtplplkchibefjaaGrBev
import Derived.Test.YtplplkchibefjaaGrBrl
import Derived.Test.YtplplkchibefjaaGrBus
namespace Go.Proofs.Ytplplkchibefjaa
open Go.RowKit Go.Shelf

def lkA (g : Gr) (a b c d : Value) : Array Value := #[.slice g.ga g.gs.length g.gc, .slice g.ea g.es.length g.ec, .slice g.ra g.rs.length g.rc, .slice g.ua g.us.length g.uc, a, b, c, d]
/-- The looker while its maps are gathered. -/
structure GS (w0 w W : World) (L : Nat) (g : Gr) (a b c d : Value) : Prop where
  blk : W.heap[L]? = some (.cells (lkA g a b c d) 120 (0, 0))
  bel : Below w0.heap.size w0 W
  kept : ∀ k, k < w.heap.size → k ≠ L → W.heap[k]? = w.heap[k]?
  size : w.heap.size ≤ W.heap.size
theorem GS.next {w0 w W W' : World} {L : Nat} {g : Gr} {a b c d : Value} (h : GS w0 w W L g a b c d) (hb : Below W.heap.size W W') : GS w0 w W' L g a b c d :=
  ⟨(hb.block _ (Array.getElem?_eq_some_iff.1 h.blk).1).trans h.blk, h.bel.trans (hb.mono h.bel.size), fun k h1 h2 => (hb.block k (Nat.lt_of_lt_of_le h1 h.size)).trans (h.kept k h1 h2), Nat.le_trans h.size hb.size⟩
theorem GS.set {w0 w W : World} {L i : Nat} {g : Gr} {a b c d a' b' c' d' : Value} (h : GS w0 w W L g a b c d) (hL : w0.heap.size ≤ L) (v : Value) (he : (lkA g a b c d).setIfInBounds i v = lkA g a' b' c' d') : GS w0 w (W.setCell ⟨L, i, none⟩ v) L g a' b' c' d' :=
  ⟨by rw [blk_set h.blk, he], h.bel.setCell (p := ⟨L, i, none⟩) hL v, fun k h1 h2 => (blk_other h2).trans (h.kept k h1 h2), by have := h.size; simp [World.setCell]; exact this⟩
theorem MapFn.set {w : World} {P : Program} {k e : TypeId} {b n L i : Nat} {f : Lit → Option Nat} {v : Value} (h : MapFn w P k e b n f) (hne : b ≠ L) : MapFn (w.setCell ⟨L, i, none⟩ v) P k e b n f := h.block (blk_other hne)
theorem size_set (w : World) (p : Addr) (v : Value) : (w.setCell p v).heap.size = w.heap.size := by simp [World.setCell]

set_option maxRecDepth 100000 in
set_option maxHeartbeats 4000000 in
theorem gather_any (w0 w : World) (L : Nat) (g : Gr) (hI : InG w0 g) (hz : SzG g) (h1 : g.gs.length ≤ 1000000) (h2 : g.es.length ≤ 1000000) (h3 : g.rs.length ≤ 1000000) (h4 : g.us.length ≤ 1000000) (hL0 : w0.heap.size ≤ L)
    (hg : GS w0 w w L g (.map none) (.map none) (.map none) (.map none)) :
    Calls Try.prog 77 #[.pointer (some ⟨L, 0, none⟩)] w fun e w' => (∃ v, e = .returned v) ∧ ∃ bg be br bu, LkIn w' L g bg be br bu ∧ GS w0 w w' L g (.map (some bg)) (.map (some be)) (.map (some br)) (.map (some bu)) ∧ (L < bg ∧ L < be ∧ L < br ∧ L < bu) := by
  have hLs : L < w.heap.size := (Array.getElem?_eq_some_iff.1 hg.blk).1
  have c0 := cell_blk (i := 0) hg.blk rfl
  have c4 := cell_blk (i := 4) hg.blk rfl
  have HI := Lib.hid hI
  have HZ := Lib.hid hz
  have HG := Lib.hid hg
  clear hI hz hg
  go_enter Try.func77, Try.ntmps77
  go_wp2_with fail
  refine (firsts_gp g.ga g.gc g.gs _ (HI.out.gs.below (Nat.le_refl _) HG.out.bel) h1 (fun p hp => (HZ.out.gp p hp).1)).mono ?_
  rintro e w1 ⟨b4, rfl, m4, hb1, hl4⟩
  have g1 := HG.out.next hb1
  have s1 := hb1.size
  have d1 := cell_blk (i := 1) g1.blk rfl
  have d4 := cell_blk (i := 4) g1.blk rfl
  have f4 := frozen_blk (i := 4) g1.blk
  have G1 := Lib.hid (g1.set (i := 4) hL0 (.map (some b4)) (a' := .map (some b4)) (b' := .map none) (c' := .map none) (d' := .map none) rfl)
  have M4 := Lib.hid (m4.set (L := L) (i := 4) (v := .map (some b4)) (by omega))
  clear hb1 g1 m4 c0 c4
  go_wp2_with fail
  refine (firsts_ev g.ea g.ec g.es _ (HI.out.es.below (Nat.le_refl _) G1.out.bel) h2 (fun p hp => (HZ.out.ev p hp).1)).mono ?_
  rintro e w2 ⟨b5, rfl, m5, hb2, hl5⟩
  have g2 := G1.out.next hb2
  have s2 := hb2.size
  rw [size_set] at s2 hl5
  have M4' := Lib.hid (M4.out.below (Nat.le_refl _) hb2)
  have d2 := cell_blk (i := 2) g2.blk rfl
  have d5 := cell_blk (i := 5) g2.blk rfl
  have f5 := frozen_blk (i := 5) g2.blk
  have G2 := Lib.hid (g2.set (i := 5) hL0 (.map (some b5)) (a' := .map (some b4)) (b' := .map (some b5)) (c' := .map none) (d' := .map none) rfl)
  have M4 := Lib.hid (M4'.out.set (L := L) (i := 5) (v := .map (some b5)) (by omega))
  have M5 := Lib.hid (m5.set (L := L) (i := 5) (v := .map (some b5)) (by omega))
  clear hb2 g2 m5 M4' d1 d4 f4 G1
  go_wp2_with fail
  refine (firsts_rl g.ra g.rc g.rs _ (HI.out.rs.below (Nat.le_refl _) G2.out.bel) h3 (fun p hp => ⟨(HZ.out.rl p hp).1, (HZ.out.rl p hp).2.1, (HZ.out.rl p hp).2.2.1⟩)).mono ?_
  rintro e w3 ⟨b6, rfl, m6, hb3, hl6⟩
  have g3 := G2.out.next hb3
  have s3 := hb3.size
  rw [size_set] at s3 hl6
  have M4' := Lib.hid (M4.out.below (Nat.le_refl _) hb3)
  have M5' := Lib.hid (M5.out.below (Nat.le_refl _) hb3)
  have d3 := cell_blk (i := 3) g3.blk rfl
  have d6 := cell_blk (i := 6) g3.blk rfl
  have f6 := frozen_blk (i := 6) g3.blk
  have G3 := Lib.hid (g3.set (i := 6) hL0 (.map (some b6)) (a' := .map (some b4)) (b' := .map (some b5)) (c' := .map (some b6)) (d' := .map none) rfl)
  have M4 := Lib.hid (M4'.out.set (L := L) (i := 6) (v := .map (some b6)) (by omega))
  have M5 := Lib.hid (M5'.out.set (L := L) (i := 6) (v := .map (some b6)) (by omega))
  have M6 := Lib.hid (m6.set (L := L) (i := 6) (v := .map (some b6)) (by omega))
  clear hb3 g3 m6 M4' M5' d2 d5 f5 G2
  go_wp2_with fail
  refine (firsts_us g.ua g.uc g.us _ (HI.out.us.below (Nat.le_refl _) G3.out.bel) h4 (fun p hp => (HZ.out.ur p hp).1)).mono ?_
  rintro e w4 ⟨b7, rfl, m7, hb4, hl7⟩
  have g4 := G3.out.next hb4
  have s4 := hb4.size
  rw [size_set] at s4 hl7
  have M4' := Lib.hid (M4.out.below (Nat.le_refl _) hb4)
  have M5' := Lib.hid (M5.out.below (Nat.le_refl _) hb4)
  have M6' := Lib.hid (M6.out.below (Nat.le_refl _) hb4)
  have d7 := cell_blk (i := 7) g4.blk rfl
  have f7 := frozen_blk (i := 7) g4.blk
  have G4 := Lib.hid (g4.set (i := 7) hL0 (.map (some b7)) (a' := .map (some b4)) (b' := .map (some b5)) (c' := .map (some b6)) (d' := .map (some b7)) rfl)
  have M4 := Lib.hid (M4'.out.set (L := L) (i := 7) (v := .map (some b7)) (by omega))
  have M5 := Lib.hid (M5'.out.set (L := L) (i := 7) (v := .map (some b7)) (by omega))
  have M6 := Lib.hid (M6'.out.set (L := L) (i := 7) (v := .map (some b7)) (by omega))
  have M7 := Lib.hid (m7.set (L := L) (i := 7) (v := .map (some b7)) (by omega))
  clear hb4 g4 m7 M4' M5' M6' d3 d6 f6 G3
  go_wp2_with fail
  go_end0
  have gb := G4.out.blk
  exact ⟨⟨_, rfl⟩, b4, b5, b6, b7, ⟨cell_blk gb rfl, cell_blk gb rfl, cell_blk gb rfl, cell_blk gb rfl, cell_blk gb rfl, cell_blk gb rfl, cell_blk gb rfl, cell_blk gb rfl, M4.out, M5.out, M6.out, M7.out, HI.out.below (Nat.le_refl _) G4.out.bel⟩, G4.out, by omega, by omega, by omega, by omega⟩
end Go.Proofs.Ytplplkchibefjaa
