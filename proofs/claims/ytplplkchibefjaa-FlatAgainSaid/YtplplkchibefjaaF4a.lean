/-
  Layer 4's awake: the fixed graphs, and what each function answers of them.
-/
import Derived.Test.YtplplkchibefjaaFlN
import Derived.Test.YtplplkchibefjaaFlBk
namespace Go.Proofs.Ytplplkchibefjaa.P4
open Go.RowKit Go.Shelf

/-- Awake's graph, which lies from block n on; a graph of one event without a name. -/
def gA (n : Nat) : Gr := ⟨[⟨⟨#[103]⟩, ⟨#[]⟩⟩], [⟨⟨#[97]⟩, ⟨#[]⟩, ⟨#[114]⟩, false, false, -1⟩, ⟨⟨#[98]⟩, ⟨#[103]⟩, ⟨#[114]⟩, false, false, -1⟩], [⟨1, ⟨#[97]⟩, ⟨#[103]⟩, 3⟩, ⟨1, ⟨#[97]⟩, ⟨#[98]⟩, 5⟩, ⟨2, ⟨#[103]⟩, ⟨#[97]⟩, 2⟩], [],
  some ⟨n, 0, none⟩, 1, some ⟨n + 1, 0, none⟩, 2, some ⟨n + 2, 0, none⟩, 3, none, 0⟩
def gE (n : Nat) : Gr := ⟨[], [⟨⟨#[]⟩, ⟨#[]⟩, ⟨#[]⟩, false, false, 0⟩], [], [], none, 0, some ⟨n, 0, none⟩, 1, none, 0, none, 0⟩
def esA : List Ev := [⟨⟨#[97]⟩, ⟨#[]⟩, ⟨#[114]⟩, false, false, -1⟩, ⟨⟨#[98]⟩, ⟨#[103]⟩, ⟨#[114]⟩, false, false, -1⟩]
def tsA : List Ti := [⟨1, 0, 1, 5⟩, ⟨2, 1, 0, 2⟩]
theorem mayA (n : Nat) : mayL (gA n) = true := by kernel_rfl
theorem mayE (n : Nat) : mayL (gE n) = false := by kernel_rfl
theorem chE (n : Nat) : (checkL (gE n)).2.2 = 5 := by kernel_rfl
theorem foA (n : Nat) : foldT [] (toldL (gA n) (gA n).rs.length) = some tsA := by kernel_rfl
theorem szA (n : Nat) : SzG (gA n) := ⟨by simp [gA], by simp [gA], by simp [gA], by simp [gA], by simp [gA]; decide, by simp [gA, Lit.wf]; decide, by simp [gA, Lit.wf]; decide, by simp [gA]⟩
theorem szE (n : Nat) : SzG (gE n) := ⟨by simp [gE], by simp [gE], by simp [gE], by simp [gE], by simp [gE], by simp [gE, Lit.wf]; decide, by simp [gE], by simp [gE]⟩
theorem Row.of_blk {W : World} {b : Nat} {cs : Array Value} {T : TypeId} {xs : List Value} (h : W.heap[b]? = some (.cells cs T (0, 0))) (hx : cs.toList = xs) : Row W (some ⟨b, 0, none⟩) xs := fun _ =>
  ⟨b, 0, rfl, (Array.getElem?_eq_some_iff.1 h).1, fun j u hj => by rw [Nat.zero_add]; exact cell_blk h (by rw [← hx] at hj; simpa using hj)⟩
theorem Row.empty (W : World) (A : Option Addr) : Row W A [] := fun h => absurd rfl h
/-- A row at the head of a block. -/
structure HR (W : World) (g : Nat) (xs : List Value) : Prop where
  z : g < W.heap.size
  c : ∀ j u, xs[j]? = some u → W.cell? ⟨g, j, none⟩ = some u
theorem HR.call {W W' : World} {g : Nat} {xs : List Value} (h : HR W g xs) (hb : Below W.heap.size W W') : HR W' g xs := ⟨Nat.lt_of_lt_of_le h.z hb.size, fun j u hj => (hb.cell (p := ⟨g, j, none⟩) h.z).trans (h.c j u hj)⟩
theorem HR.alloc {W : World} {g : Nat} {xs : List Value} (h : HR W g xs) (o : Obj) : HR (W.alloc o) g xs := h.call ((Below.refl _ _).alloc (Nat.le_refl _) _)
theorem HR.row {W : World} {g : Nat} {xs : List Value} (h : HR W g xs) : Row W (some ⟨g, 0, none⟩) xs := fun _ => ⟨g, 0, rfl, h.z, fun j u hj => by rw [Nat.zero_add]; exact h.c j u hj⟩
theorem own_hr {w : World} {B e z n : Nat} {v : Value} {xs : List Value} (h : w.ownsRow B e z v (n + 1) xs) : ∃ g c, v = .slice (some ⟨g, 0, none⟩) (n + 1) c ∧ HR w g xs := by
  rcases h.2 with ⟨_, h0⟩ | ⟨g, cap, cur, rfl, hb, hg, _⟩
  · omega
  · refine ⟨g, cap, rfl, (Array.getElem?_eq_some_iff.1 hg).1, fun j u hu => ?_⟩
    have := h.cells (g := g) rfl j u hu
    rw [Addr.add_lit, Nat.zero_add] at this
    exact this
theorem blk_call {W W' : World} {b : Nat} {o : Obj} (h : W.heap[b]? = some o) (hb : Below W.heap.size W W') : W'.heap[b]? = some o := (hb.block _ (Array.getElem?_eq_some_iff.1 h).1).trans h
/-- The graph lies in memory. -/
structure GA (w W : World) : Prop where
  g : W.heap[w.heap.size]? = some (.cells #[.string ⟨#[103]⟩, .string ⟨#[]⟩] 83 (0, 0))
  e : W.heap[w.heap.size + 1]? = some (.cells #[.string ⟨#[97]⟩, .string ⟨#[]⟩, .string ⟨#[114]⟩, .bool false, .bool false, .int .i64 (-1), .string ⟨#[98]⟩, .string ⟨#[103]⟩, .string ⟨#[114]⟩, .bool false, .bool false, .int .i64 (-1)] 46 (0, 0))
  r : W.heap[w.heap.size + 2]? = some (.cells #[.int .i64 1, .string ⟨#[97]⟩, .string ⟨#[103]⟩, .int .i64 3, .int .i64 1, .string ⟨#[97]⟩, .string ⟨#[98]⟩, .int .i64 5, .int .i64 2, .string ⟨#[103]⟩, .string ⟨#[97]⟩, .int .i64 2] 53 (0, 0))
theorem GA.ing {w W : World} (h : GA w W) : InG W (gA w.heap.size) := ⟨Row.of_blk h.g rfl, Row.of_blk h.e rfl, Row.of_blk h.r rfl, Row.empty _ _, by simp [gA]⟩
/-- What Make answers of it. -/
def MkA (W : World) (e : Ending) (w' : World) : Prop := ∃ g1 c1 g2 c2, e = .returned (.tuple #[.agg #[.slice (some ⟨g1, 0, none⟩) 2 c1, .slice (some ⟨g2, 0, none⟩) 2 c2], .int .i64 0]) ∧ HR w' g1 (esA.flatMap evC) ∧ HR w' g2 (tsA.flatMap tiC) ∧ Below W.heap.size W w'
theorem make_aw (w W : World) (h : GA w W) : Calls Try.prog 17 #[.agg #[.slice (some ⟨w.heap.size, 0, none⟩) 1 1, .slice (some ⟨w.heap.size + 1, 0, none⟩) 2 2, .slice (some ⟨w.heap.size + 2, 0, none⟩) 3 3, .slice none 0 0]] W (MkA W) :=
  (make_any W (gA w.heap.size) h.ing (szA _) (by simp [gA])).mono fun e w' hv => by
    obtain ⟨_, _, v1, v2, he, h1, h2⟩ := hv.ok (mayA _) tsA (foA _)
    obtain ⟨g1, c1, rfl, r1⟩ := own_hr (n := 1) h1
    obtain ⟨g2, c2, rfl, r2⟩ := own_hr (n := 1) h2
    exact ⟨g1, c1, g2, c2, he, r1, r2, hv.b⟩
theorem make_awE (W : World) (n : Nat) (h : W.heap[n]? = some (.cells #[.string ⟨#[]⟩, .string ⟨#[]⟩, .string ⟨#[]⟩, .bool false, .bool false, .int .i64 0] 46 (0, 0))) :
    Calls Try.prog 17 #[.agg #[.slice none 0 0, .slice (some ⟨n, 0, none⟩) 1 1, .slice none 0 0, .slice none 0 0]] W fun e w' => e = .returned (.tuple #[.agg #[.slice none 0 0, .slice none 0 0], .int .i64 5]) ∧ Below W.heap.size W w' :=
  (make_any W (gE n) ⟨Row.empty _ _, Row.of_blk h rfl, Row.empty _ _, Row.empty _ _, by simp [gE]⟩ (szE _) (by simp [gE])).mono fun e w' hv => ⟨by rw [hv.no (mayE _), chE]; rfl, hv.b⟩
theorem inA : tsA.filter (F4.intoB 1 1) = [⟨1, 0, 1, 5⟩] := by kernel_rfl
theorem outA : tsA.filter (F4.outB 2 1) = [⟨2, 1, 0, 2⟩] := by kernel_rfl
theorem baA : F4.backL esA tsA = [⟨1, ⟨#[97]⟩, ⟨#[98]⟩, 5⟩, ⟨2, ⟨#[98]⟩, ⟨#[97]⟩, 2⟩] := by kernel_rfl
section
variable {W : World} {g1 g2 c1 c2 : Nat}
theorem into_aw (h : HR W g2 (tsA.flatMap tiC)) : Calls Try.prog 24 #[.agg #[.slice (some ⟨g1, 0, none⟩) 2 c1, .slice (some ⟨g2, 0, none⟩) 2 c2], .int .i64 1, .int .i64 1] W fun e w' => ∃ g c, e = .returned (.slice (some ⟨g, 0, none⟩) 1 c) ∧ HR w' g (tiC ⟨1, 0, 1, 5⟩) ∧ Below W.heap.size W w' :=
  (F4.into_any W (some ⟨g1, 0, none⟩) (some ⟨g2, 0, none⟩) 2 c1 c2 tsA 1 1 h.row (by decide)).mono fun e w' hv => by
    obtain ⟨v, rfl, ho, hb⟩ := hv
    rw [inA] at ho
    obtain ⟨g, c, rfl, r⟩ := own_hr (n := 0) ho
    exact ⟨g, c, rfl, by simpa using r, hb⟩
theorem out_aw (h : HR W g2 (tsA.flatMap tiC)) : Calls Try.prog 25 #[.agg #[.slice (some ⟨g1, 0, none⟩) 2 c1, .slice (some ⟨g2, 0, none⟩) 2 c2], .int .i64 2, .int .i64 1] W fun e w' => ∃ g c, e = .returned (.slice (some ⟨g, 0, none⟩) 1 c) ∧ HR w' g (tiC ⟨2, 1, 0, 2⟩) ∧ Below W.heap.size W w' :=
  (F4.out_any W (some ⟨g1, 0, none⟩) (some ⟨g2, 0, none⟩) 2 c1 c2 tsA 2 1 h.row (by decide)).mono fun e w' hv => by
    obtain ⟨v, rfl, ho, hb⟩ := hv
    rw [outA] at ho
    obtain ⟨g, c, rfl, r⟩ := own_hr (n := 0) ho
    exact ⟨g, c, rfl, by simpa using r, hb⟩
theorem back_aw (h1 : HR W g1 (esA.flatMap evC)) (h : HR W g2 (tsA.flatMap tiC)) : Calls Try.prog 22 #[.agg #[.slice (some ⟨g1, 0, none⟩) 2 c1, .slice (some ⟨g2, 0, none⟩) 2 c2]] W fun e w' => ∃ ge ce g c, e = .returned (.agg #[.slice none 0 0, .slice (some ⟨ge, 0, none⟩) 2 ce, .slice (some ⟨g, 0, none⟩) 2 c, .slice none 0 0]) ∧ HR w' g ([⟨1, ⟨#[97]⟩, ⟨#[98]⟩, 5⟩, ⟨2, ⟨#[98]⟩, ⟨#[97]⟩, 2⟩].flatMap rlC) ∧ Below W.heap.size W w' :=
  (F4.back_any W (some ⟨g1, 0, none⟩) (some ⟨g2, 0, none⟩) c1 c2 esA tsA h1.row h.row (by decide) (by decide)).mono fun e w' hv => by
    obtain ⟨ve, vr, rfl, he, ho, hb⟩ := hv
    rw [baA] at ho
    obtain ⟨g, c, rfl, r⟩ := own_hr (n := 1) ho
    obtain ⟨ge, ce, rfl, _⟩ := own_hr (n := 1) he
    exact ⟨ge, ce, g, c, rfl, r, hb⟩
theorem names_aw (h1 : HR W g1 (esA.flatMap evC)) : Calls Try.prog 46 #[.agg #[.slice (some ⟨g1, 0, none⟩) 2 c1, .slice (some ⟨g2, 0, none⟩) 2 c2]] W fun e w' => ∃ g c, e = .returned (.slice (some ⟨g, 0, none⟩) 2 c) ∧ HR w' g [.string ⟨#[97]⟩, .string ⟨#[98]⟩] ∧ Below W.heap.size W w' :=
  (F4.names_fl W (some ⟨g1, 0, none⟩) (some ⟨g2, 0, none⟩) c1 2 c2 esA h1.row (by decide)).mono fun e w' hv => by
    obtain ⟨v, rfl, ho, hb⟩ := hv
    obtain ⟨g, c, rfl, r⟩ := own_hr (n := 1) ho
    exact ⟨g, c, rfl, r, hb⟩
end
end Go.Proofs.Ytplplkchibefjaa.P4
