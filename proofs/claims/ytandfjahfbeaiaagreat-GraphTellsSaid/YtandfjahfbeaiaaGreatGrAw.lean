/-
  What awake asks of package graph: the calls of fixed graphs.
-/
import Derived.Test.YtandfjahfbeaiaaGreatGrSm
import Derived.Test.YtandfjahfbeaiaaGreatGrRo
import Derived.Test.YtandfjahfbeaiaaGreatGrSa
import Derived.Deep.RegionHeld3
namespace Go.Proofs.YtandfjahfbeaiaaGreat
open Go.RowKit Go.Shelf

/-- The graph of awake, which lies from block n on. -/
def gA (n : Nat) : Gr := ⟨[⟨⟨#[103]⟩, ⟨#[]⟩⟩, ⟨⟨#[104]⟩, ⟨#[103]⟩⟩], [⟨⟨#[97]⟩, ⟨#[]⟩, ⟨#[114]⟩, false, false, -1⟩, ⟨⟨#[98]⟩, ⟨#[104]⟩, ⟨#[113]⟩, false, false, -1⟩], [⟨1, ⟨#[97]⟩, ⟨#[103]⟩, 3⟩], [⟨⟨#[117]⟩, some ⟨n + 3, 0, none⟩, 1, [⟨#[114]⟩], ⟨#[]⟩⟩],
  some ⟨n, 0, none⟩, 2, some ⟨n + 1, 0, none⟩, 2, some ⟨n + 2, 0, none⟩, 1, some ⟨n + 4, 0, none⟩, 1⟩
/-- Two events of one name; two users who stand in for each other; nothing. -/
def gB (n : Nat) : Gr := ⟨[], [⟨⟨#[97]⟩, ⟨#[]⟩, ⟨#[114]⟩, false, false, 0⟩, ⟨⟨#[97]⟩, ⟨#[]⟩, ⟨#[114]⟩, false, false, 0⟩], [], [], none, 0, some ⟨n, 0, none⟩, 2, none, 0, none, 0⟩
def gC (n : Nat) : Gr := ⟨[], [], [], [⟨⟨#[117]⟩, none, 0, [], ⟨#[118]⟩⟩, ⟨⟨#[118]⟩, none, 0, [], ⟨#[117]⟩⟩], none, 0, none, 0, none, 0, some ⟨n, 0, none⟩, 2⟩
def g0 : Gr := ⟨[], [], [], [], none, 0, none, 0, none, 0, none, 0⟩
theorem chA (n : Nat) : checkL (gA n) = (0, 0, 0) := by kernel_rfl
theorem chB (n : Nat) : checkL (gB n) = (2, 1, 6) := by kernel_rfl
theorem chC (n : Nat) : checkL (gC n) = (4, 0, 7) := by kernel_rfl
theorem meA (n : Nat) : memL (gA n) ⟨#[103]⟩ = [1] := by kernel_rfl
theorem abA (n : Nat) : aboveL (gA n) ⟨#[104]⟩ = [⟨#[104]⟩, ⟨#[103]⟩] := by kernel_rfl
theorem f1A (n : Nat) : (if mayL (gA n) then idxB (named Ev.name ⟨#[98]⟩) (gA n).es else -1) = 1 := by kernel_rfl
theorem f2A (n : Nat) : (if mayL (gA n) then idxB (named Ev.name ⟨#[103]⟩) (gA n).es else -1) = -1 := by kernel_rfl
theorem srtA : sortK [[114], [113], [114]] = [[113], [114], [114]] := by
  have h1 : ¬ ([114] : Key) ≤ [113] := by decide
  have h2 : ([113] : Key) ≤ [114] := by decide
  unfold sortK
  simp [List.mergeSort, List.MergeSort.Internal.splitInTwo, h1, h2]
theorem roA (n : Nat) : rolesL (gA n) = [⟨#[113]⟩, ⟨#[114]⟩] := by
  rw [rolesL, if_pos (by kernel_rfl), rolesK, show (rolesAll (gA n)).map (·.data.toList) = [[114], [113], [114]] from by kernel_rfl, srtA]
  kernel_rfl
theorem szA (n : Nat) : SzG (gA n) := ⟨by simp [gA], by simp [gA], by simp [gA], by simp [gA], by simp [gA]; decide, by simp [gA, Lit.wf]; decide, by simp [gA, Lit.wf]; decide, by simp [gA]; decide⟩
theorem szB (n : Nat) : SzG (gB n) := ⟨by simp [gB], by simp [gB], by simp [gB], by simp [gB], by simp [gB], by simp [gB, Lit.wf]; decide, by simp [gB], by simp [gB]⟩
theorem szC (n : Nat) : SzG (gC n) := ⟨by simp [gC], by simp [gC], by simp [gC], by simp [gC], by simp [gC], by simp [gC], by simp [gC], by simp [gC]; decide⟩
theorem sz0 : SzG g0 := ⟨by decide, by decide, by decide, by decide, by simp [g0], by simp [g0], by simp [g0], by simp [g0]⟩

theorem Row.of_blk {W : World} {b : Nat} {cs : Array Value} {T : TypeId} {xs : List Value} (h : W.heap[b]? = some (.cells cs T (0, 0))) (hx : cs.toList = xs) : Row W (some ⟨b, 0, none⟩) xs := fun _ =>
  ⟨b, 0, rfl, (Array.getElem?_eq_some_iff.1 h).1, fun j u hj => by rw [Nat.zero_add]; exact cell_blk h (by rw [← hx] at hj; simpa using hj)⟩
theorem Row.empty (W : World) (A : Option Addr) : Row W A [] := fun h => absurd rfl h
/-- The world in which awake's graph lies. -/
def wA (w : World) : World := (((((w.alloc (.cells #[.string ⟨#[103]⟩, .string ⟨#[]⟩, .string ⟨#[104]⟩, .string ⟨#[103]⟩] 39)).alloc (.cells #[.string ⟨#[97]⟩, .string ⟨#[]⟩, .string ⟨#[114]⟩, .bool false, .bool false, .int .i64 (-1), .string ⟨#[98]⟩, .string ⟨#[104]⟩, .string ⟨#[113]⟩, .bool false, .bool false, .int .i64 (-1)] 41)).alloc (.cells #[.int .i64 1, .string ⟨#[97]⟩, .string ⟨#[103]⟩, .int .i64 3] 43)).alloc (.cells #[.string ⟨#[114]⟩] 9)).alloc (.cells #[.string ⟨#[117]⟩, .slice (some ⟨w.heap.size + 3, 0, none⟩) 1 1, .string ⟨#[]⟩] 45)).alloc (.cells #[.slice (some ⟨w.heap.size, 0, none⟩) 2 2, .slice (some ⟨w.heap.size + 1, 0, none⟩) 2 2, .slice (some ⟨w.heap.size + 2, 0, none⟩) 1 1, .slice (some ⟨w.heap.size + 4, 0, none⟩) 1 1] 27)
theorem wA_size (w : World) : (wA w).heap.size = w.heap.size + 6 := by simp [wA]
theorem wA_below (w : World) : Below w.heap.size w (wA w) :=
  ((((((Below.refl _ _).alloc (by simp) _).alloc (by simp) _).alloc (by simp; omega) _).alloc (by simp; omega) _).alloc (by simp; omega) _).alloc (by simp; omega) _
theorem hA_old {w : World} {o x : Obj} {b : Nat} (h : w.heap[b]? = some x) : (w.alloc o).heap[b]? = some x := (Below.heap_alloc _ _ _ (Array.getElem?_eq_some_iff.1 h).1).trans h
theorem hA_new {w : World} {o : Obj} {b : Nat} (h : b = w.heap.size) : (w.alloc o).heap[b]? = some o := by rw [h]; exact heap_new _ _
/-- Behind awake's first statement. -/
structure KA (w W : World) : Prop where
  b : Below (w.heap.size + 6) (wA w) W
theorem ka_begin (w : World) : KA w (wA w) := ⟨Below.refl _ _⟩
theorem ka_size {w W : World} (h : KA w W) : w.heap.size + 6 ≤ W.heap.size := by have := h.b.size; rw [wA_size] at this; exact this
theorem ka_drew {w W : World} (h : KA w W) : KA w W.drew := ⟨⟨h.b.os, h.b.tape, h.b.output, h.b.size, h.b.block⟩⟩
theorem ka_alloc {w W : World} (h : KA w W) (o : Obj) : KA w (W.alloc o) := ⟨h.b.alloc (ka_size h) o⟩
theorem ka_call {w W W' : World} (hb : Below W.heap.size W W') (h : KA w W) : KA w W' := ⟨h.b.trans (hb.mono (ka_size h))⟩
theorem ka_old {w W : World} (h : KA w W) : Below w.heap.size w W := (wA_below w).trans (h.b.mono (by omega))
theorem ka_in {w W : World} (h : KA w W) : InG W (gA w.heap.size) := by
  have e : ∀ b o, b < w.heap.size + 6 → (wA w).heap[b]? = some o → W.heap[b]? = some o := fun b o hb ho => (h.b.block b hb).trans ho
  refine ⟨Row.of_blk (e _ _ (by omega) (hA_old (hA_old (hA_old (hA_old (hA_old (hA_new (by simp)))))))) rfl, Row.of_blk (e _ _ (by omega) (hA_old (hA_old (hA_old (hA_old (hA_new (by simp))))))) rfl, Row.of_blk (e _ _ (by omega) (hA_old (hA_old (hA_old (hA_new (by simp)))))) rfl, Row.of_blk (e _ _ (by omega) (hA_old (hA_new (by simp)))) rfl, fun u hu => ?_⟩
  obtain rfl : u = ⟨⟨#[117]⟩, some ⟨w.heap.size + 3, 0, none⟩, 1, [⟨#[114]⟩], ⟨#[]⟩⟩ := by simpa [gA] using hu
  exact Row.of_blk (e _ _ (by omega) (hA_old (hA_old (hA_new (by simp))))) rfl
theorem ka_cells {w W : World} (h : KA w W) : W.cell? ⟨w.heap.size + 5, 0, none⟩ = some (.slice (some ⟨w.heap.size, 0, none⟩) 2 2) ∧ W.cell? ⟨w.heap.size + 5, 1, none⟩ = some (.slice (some ⟨w.heap.size + 1, 0, none⟩) 2 2) ∧ W.cell? ⟨w.heap.size + 5, 2, none⟩ = some (.slice (some ⟨w.heap.size + 2, 0, none⟩) 1 1) ∧ W.cell? ⟨w.heap.size + 5, 3, none⟩ = some (.slice (some ⟨w.heap.size + 4, 0, none⟩) 1 1) := by
  have hh : W.heap[w.heap.size + 5]? = some (.cells #[.slice (some ⟨w.heap.size, 0, none⟩) 2 2, .slice (some ⟨w.heap.size + 1, 0, none⟩) 2 2, .slice (some ⟨w.heap.size + 2, 0, none⟩) 1 1, .slice (some ⟨w.heap.size + 4, 0, none⟩) 1 1] 27 (0, 0)) :=
    (h.b.block _ (by omega)).trans (hA_new (by simp))
  exact ⟨cell_blk hh rfl, cell_blk hh rfl, cell_blk hh rfl, cell_blk hh rfl⟩
theorem capA (n : Nat) : ∀ u ∈ (gA n).us, u.roles.length ≤ u.rc := by simp [gA]
theorem nilA (n : Nat) : ∀ u ∈ (gA n).us, u.ra = none → u.rc = 0 := by simp [gA]
theorem check_aw (w W : World) (h : KA w W) : Calls Tryz.prog 15 #[.agg #[.slice (some ⟨w.heap.size, 0, none⟩) 2 2, .slice (some ⟨w.heap.size + 1, 0, none⟩) 2 2, .slice (some ⟨w.heap.size + 2, 0, none⟩) 1 1, .slice (some ⟨w.heap.size + 4, 0, none⟩) 1 1]] W fun e w' => e = .returned (.tuple #[.agg #[.int .i64 0, .int .i64 0], .int .i64 0]) ∧ Below W.heap.size W w' :=
  (check_any W (gA w.heap.size) (ka_in h) (szA _) (capA _)).mono fun e w' ⟨he, hb⟩ => ⟨by rw [he, chA]; rfl, hb⟩
theorem check_awB (W : World) (n : Nat) (h : W.heap[n]? = some (.cells #[.string ⟨#[97]⟩, .string ⟨#[]⟩, .string ⟨#[114]⟩, .bool false, .bool false, .int .i64 0, .string ⟨#[97]⟩, .string ⟨#[]⟩, .string ⟨#[114]⟩, .bool false, .bool false, .int .i64 0] 41 (0, 0))) :
    Calls Tryz.prog 15 #[.agg #[.slice none 0 0, .slice (some ⟨n, 0, none⟩) 2 2, .slice none 0 0, .slice none 0 0]] W fun e w' => e = .returned (.tuple #[.agg #[.int .i64 2, .int .i64 1], .int .i64 6]) ∧ Below W.heap.size W w' :=
  (check_any W (gB n) ⟨Row.empty _ _, Row.of_blk h rfl, Row.empty _ _, Row.empty _ _, by simp [gB]⟩ (szB _) (by simp [gB])).mono fun e w' ⟨he, hb⟩ => ⟨by rw [he, chB]; rfl, hb⟩
theorem check_awC (W : World) (n : Nat) (h : W.heap[n]? = some (.cells #[.string ⟨#[117]⟩, .slice none 0 0, .string ⟨#[118]⟩, .string ⟨#[118]⟩, .slice none 0 0, .string ⟨#[117]⟩] 45 (0, 0))) :
    Calls Tryz.prog 15 #[.agg #[.slice none 0 0, .slice none 0 0, .slice none 0 0, .slice (some ⟨n, 0, none⟩) 2 2]] W fun e w' => e = .returned (.tuple #[.agg #[.int .i64 4, .int .i64 0], .int .i64 7]) ∧ Below W.heap.size W w' :=
  (check_any W (gC n) ⟨Row.empty _ _, Row.empty _ _, Row.empty _ _, Row.of_blk h rfl, by simp [gC]; exact Row.empty _ _⟩ (szC _) (by simp [gC])).mono fun e w' ⟨he, hb⟩ => ⟨by rw [he, chC]; rfl, hb⟩
def IntsAw (l : List Int) (W : World) (e : Ending) (w' : World) : Prop := ∃ v, e = .returned v ∧ w'.ownsRow W.heap.size 3 1 v l.length (l.map fun i => Value.int .i64 i) ∧ Below W.heap.size W w'
theorem mem_aw (w W : World) (h : KA w W) : Calls Tryz.prog 6 #[.agg #[.slice (some ⟨w.heap.size, 0, none⟩) 2 2, .slice (some ⟨w.heap.size + 1, 0, none⟩) 2 2, .slice (some ⟨w.heap.size + 2, 0, none⟩) 1 1, .slice (some ⟨w.heap.size + 4, 0, none⟩) 1 1], .string ⟨#[103]⟩] W (IntsAw [1] W) :=
  (members_any W (gA w.heap.size) ⟨#[103]⟩ (ka_in h) (szA _) (capA _)).mono fun e w' hv => by rw [meA] at hv; exact hv
theorem above_aw (w W : World) (h : KA w W) : Calls Tryz.prog 11 #[.agg #[.slice (some ⟨w.heap.size, 0, none⟩) 2 2, .slice (some ⟨w.heap.size + 1, 0, none⟩) 2 2, .slice (some ⟨w.heap.size + 2, 0, none⟩) 1 1, .slice (some ⟨w.heap.size + 4, 0, none⟩) 1 1], .string ⟨#[104]⟩] W (StrsOf [⟨#[104]⟩, ⟨#[103]⟩] W) := by
  rw [← abA w.heap.size]; exact above_any W (gA w.heap.size) ⟨#[104]⟩ (ka_in h) (szA _) (capA _)
theorem roles_aw (w W : World) (h : KA w W) : Calls Tryz.prog 13 #[.agg #[.slice (some ⟨w.heap.size, 0, none⟩) 2 2, .slice (some ⟨w.heap.size + 1, 0, none⟩) 2 2, .slice (some ⟨w.heap.size + 2, 0, none⟩) 1 1, .slice (some ⟨w.heap.size + 4, 0, none⟩) 1 1]] W (StrsOf [⟨#[113]⟩, ⟨#[114]⟩] W) := by
  rw [← roA w.heap.size]; exact roles_any W (gA w.heap.size) (ka_in h) (szA _) (capA _) (nilA _)
theorem find1_aw (w W : World) (h : KA w W) : Calls Tryz.prog 8 #[.agg #[.slice (some ⟨w.heap.size, 0, none⟩) 2 2, .slice (some ⟨w.heap.size + 1, 0, none⟩) 2 2, .slice (some ⟨w.heap.size + 2, 0, none⟩) 1 1, .slice (some ⟨w.heap.size + 4, 0, none⟩) 1 1], .string ⟨#[98]⟩] W fun e w' => e = .returned (.int .i64 1) ∧ Below W.heap.size W w' :=
  (find_any W (gA w.heap.size) ⟨#[98]⟩ (ka_in h) (szA _) (capA _)).mono fun e w' ⟨he, hb⟩ => ⟨by rw [he, f1A], hb⟩
theorem find2_aw (w W : World) (h : KA w W) : Calls Tryz.prog 8 #[.agg #[.slice (some ⟨w.heap.size, 0, none⟩) 2 2, .slice (some ⟨w.heap.size + 1, 0, none⟩) 2 2, .slice (some ⟨w.heap.size + 2, 0, none⟩) 1 1, .slice (some ⟨w.heap.size + 4, 0, none⟩) 1 1], .string ⟨#[103]⟩] W fun e w' => e = .returned (.int .i64 (-1)) ∧ Below W.heap.size W w' :=
  (find_any W (gA w.heap.size) ⟨#[103]⟩ (ka_in h) (szA _) (capA _)).mono fun e w' ⟨he, hb⟩ => ⟨by rw [he, f2A], hb⟩
theorem same_aw (w W : World) (c : Gr) (h : KA w W) (hI : InG W c) (hs : SameG c (gA w.heap.size)) : Calls Tryz.prog 17 #[.agg #[.slice c.ga c.gs.length c.gc, .slice c.ea c.es.length c.ec, .slice c.ra c.rs.length c.rc, .slice c.ua c.us.length c.uc], .agg #[.slice (some ⟨w.heap.size, 0, none⟩) 2 2, .slice (some ⟨w.heap.size + 1, 0, none⟩) 2 2, .slice (some ⟨w.heap.size + 2, 0, none⟩) 1 1, .slice (some ⟨w.heap.size + 4, 0, none⟩) 1 1]] W fun e w' => e = .returned (.bool true) ∧ Below W.heap.size W w' :=
  (same_any W c (gA w.heap.size) hI (ka_in h) (hs.sz (szA _))).mono fun e w' ⟨he, hb⟩ => ⟨by rw [he, hs.same], hb⟩
theorem same0_aw (w W : World) (c : Gr) (hI : InG W c) (hs : SameG c (gA w.heap.size)) : Calls Tryz.prog 17 #[.agg #[.slice c.ga c.gs.length c.gc, .slice c.ea c.es.length c.ec, .slice c.ra c.rs.length c.rc, .slice c.ua c.us.length c.uc], .agg #[.slice none 0 0, .slice none 0 0, .slice none 0 0, .slice none 0 0]] W fun e w' => e = .returned (.bool false) ∧ Below W.heap.size W w' :=
  (same_any W c g0 hI ⟨Row.empty _ _, Row.empty _ _, Row.empty _ _, Row.empty _ _, by simp [g0]⟩ (hs.sz (szA _))).mono fun e w' ⟨he, hb⟩ => ⟨by
    rw [he]
    have : sameL c g0 = false := by rw [sameL, eqLB_len (a := c.gs) (b := g0.gs) (by rw [hs.gs]; simp [gA, g0])]; rfl
    rw [this], hb⟩
end Go.Proofs.YtandfjahfbeaiaaGreat
