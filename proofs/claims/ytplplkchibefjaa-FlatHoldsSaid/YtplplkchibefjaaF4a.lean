/-
  Layer 4's awake: the fixed graphs, and what each function answers of them. Contract of layer 4's awake: it answers true.
-/
import Derived.Test.YtplplkchibefjaaFlN
import Derived.Test.YtplplkchibefjaaFlBk
import Derived.Laws.StructEq
import Derived.Deep.RegionHeld3
namespace Go.Proofs.Ytplplkchibefjaa.P4
open Go.RowKit Go.Shelf

/-- Awake's graph, which lies from block n on; a graph of one event without a name. -/
def gA (n : Nat) : Gr := ⟨[⟨⟨#[103]⟩, ⟨#[]⟩⟩], [⟨⟨#[97]⟩, ⟨#[]⟩, ⟨#[114]⟩, false, false, -1⟩, ⟨⟨#[98]⟩, ⟨#[103]⟩, ⟨#[114]⟩, false, false, -1⟩], [⟨1, ⟨#[97]⟩, ⟨#[103]⟩, 3⟩, ⟨1, ⟨#[97]⟩, ⟨#[98]⟩, 5⟩, ⟨2, ⟨#[103]⟩, ⟨#[97]⟩, 2⟩], [],
  some ⟨n, 0, none⟩, 1, some ⟨n + 1, 0, none⟩, 2, some ⟨n + 2, 0, none⟩, 3, none, 0⟩
def gE (n : Nat) : Gr := ⟨[], [⟨⟨#[]⟩, ⟨#[]⟩, ⟨#[]⟩, false, false, 0⟩], [], [], none, 0, some ⟨n, 0, none⟩, 1, none, 0, none, 0⟩
def esA : List Ev := [⟨⟨#[97]⟩, ⟨#[]⟩, ⟨#[114]⟩, false, false, -1⟩, ⟨⟨#[98]⟩, ⟨#[103]⟩, ⟨#[114]⟩, false, false, -1⟩]
def tsA : List Ti := [⟨1, 0, 1, 5⟩, ⟨2, 1, 0, 2⟩]
theorem mayA (n : Nat) : mayL (gA n) = true := by kernel_rfl
theorem mayE (n : Nat) : mayL (gE n) = false := by kernel_rfl
theorem chE (n : Nat) : (checkL (gE n)).2.2 = 5 := by kernel_rfl
theorem foA (n : Nat) : foldT [] (toldL (gA n) (gA n).rs.length) = some tsA := by kernel_rfl
theorem szA (n : Nat) : SzG (gA n) := ⟨by simp [gA], by simp [gA], by simp [gA], by simp [gA], by simp [gA]; decide, by simp [gA, Lit.wf]; decide, by simp [gA, Lit.wf]; decide, by simp [gA]⟩
theorem szE (n : Nat) : SzG (gE n) := ⟨by simp [gE], by simp [gE], by simp [gE], by simp [gE], by simp [gE], by simp [gE, Lit.wf]; decide, by simp [gE], by simp [gE]⟩
theorem Row.of_blk {W : World} {b : Nat} {cs : Array Value} {T : TypeId} {xs : List Value} (h : W.heap[b]? = some (.cells cs T (0, 0))) (hx : cs.toList = xs) : Row W (some ⟨b, 0, none⟩) xs := fun _ =>
  ⟨b, 0, rfl, (Array.getElem?_eq_some_iff.1 h).1, fun j u hj => by rw [Nat.zero_add]; exact cell_blk h (by rw [← hx] at hj; simpa using hj)⟩
theorem Row.empty (W : World) (A : Option Addr) : Row W A [] := fun h => absurd rfl h
/-- A row at the head of a block. -/
structure HR (W : World) (g : Nat) (xs : List Value) : Prop where
  z : g < W.heap.size
  c : ∀ j u, xs[j]? = some u → W.cell? ⟨g, j, none⟩ = some u
theorem HR.call {W W' : World} {g : Nat} {xs : List Value} (h : HR W g xs) (hb : Below W.heap.size W W') : HR W' g xs := ⟨Nat.lt_of_lt_of_le h.z hb.size, fun j u hj => (hb.cell (p := ⟨g, j, none⟩) h.z).trans (h.c j u hj)⟩
theorem HR.alloc {W : World} {g : Nat} {xs : List Value} (h : HR W g xs) (o : Obj) : HR (W.alloc o) g xs := h.call ((Below.refl _ _).alloc (Nat.le_refl _) _)
theorem HR.row {W : World} {g : Nat} {xs : List Value} (h : HR W g xs) : Row W (some ⟨g, 0, none⟩) xs := fun _ => ⟨g, 0, rfl, h.z, fun j u hj => by rw [Nat.zero_add]; exact h.c j u hj⟩
theorem own_hr {w : World} {B e z n : Nat} {v : Value} {xs : List Value} (h : w.ownsRow B e z v (n + 1) xs) : ∃ g c, v = .slice (some ⟨g, 0, none⟩) (n + 1) c ∧ HR w g xs := by
  rcases h.2 with ⟨_, h0⟩ | ⟨g, cap, cur, rfl, hb, hg, _⟩
  · omega
  · refine ⟨g, cap, rfl, (Array.getElem?_eq_some_iff.1 hg).1, fun j u hu => ?_⟩
    have := h.cells (g := g) rfl j u hu
    rw [Addr.add_lit, Nat.zero_add] at this
    exact this
theorem blk_call {W W' : World} {b : Nat} {o : Obj} (h : W.heap[b]? = some o) (hb : Below W.heap.size W W') : W'.heap[b]? = some o := (hb.block _ (Array.getElem?_eq_some_iff.1 h).1).trans h
/-- The graph lies in memory. -/
structure GA (w W : World) : Prop where
  g : W.heap[w.heap.size]? = some (.cells #[.string ⟨#[103]⟩, .string ⟨#[]⟩] 83 (0, 0))
  e : W.heap[w.heap.size + 1]? = some (.cells #[.string ⟨#[97]⟩, .string ⟨#[]⟩, .string ⟨#[114]⟩, .bool false, .bool false, .int .i64 (-1), .string ⟨#[98]⟩, .string ⟨#[103]⟩, .string ⟨#[114]⟩, .bool false, .bool false, .int .i64 (-1)] 46 (0, 0))
  r : W.heap[w.heap.size + 2]? = some (.cells #[.int .i64 1, .string ⟨#[97]⟩, .string ⟨#[103]⟩, .int .i64 3, .int .i64 1, .string ⟨#[97]⟩, .string ⟨#[98]⟩, .int .i64 5, .int .i64 2, .string ⟨#[103]⟩, .string ⟨#[97]⟩, .int .i64 2] 53 (0, 0))
theorem GA.ing {w W : World} (h : GA w W) : InG W (gA w.heap.size) := ⟨Row.of_blk h.g rfl, Row.of_blk h.e rfl, Row.of_blk h.r rfl, Row.empty _ _, by simp [gA]⟩
/-- What Make answers of it. -/
def MkA (W : World) (e : Ending) (w' : World) : Prop := ∃ g1 c1 g2 c2, e = .returned (.tuple #[.agg #[.slice (some ⟨g1, 0, none⟩) 2 c1, .slice (some ⟨g2, 0, none⟩) 2 c2], .int .i64 0]) ∧ HR w' g1 (esA.flatMap evC) ∧ HR w' g2 (tsA.flatMap tiC) ∧ Below W.heap.size W w'
theorem make_aw (w W : World) (h : GA w W) : Calls Try.prog 17 #[.agg #[.slice (some ⟨w.heap.size, 0, none⟩) 1 1, .slice (some ⟨w.heap.size + 1, 0, none⟩) 2 2, .slice (some ⟨w.heap.size + 2, 0, none⟩) 3 3, .slice none 0 0]] W (MkA W) :=
  (make_any W (gA w.heap.size) h.ing (szA _) (by simp [gA])).mono fun e w' hv => by
    obtain ⟨_, _, v1, v2, he, h1, h2⟩ := hv.ok (mayA _) tsA (foA _)
    obtain ⟨g1, c1, rfl, r1⟩ := own_hr (n := 1) h1
    obtain ⟨g2, c2, rfl, r2⟩ := own_hr (n := 1) h2
    exact ⟨g1, c1, g2, c2, he, r1, r2, hv.b⟩
theorem make_awE (W : World) (n : Nat) (h : W.heap[n]? = some (.cells #[.string ⟨#[]⟩, .string ⟨#[]⟩, .string ⟨#[]⟩, .bool false, .bool false, .int .i64 0] 46 (0, 0))) :
    Calls Try.prog 17 #[.agg #[.slice none 0 0, .slice (some ⟨n, 0, none⟩) 1 1, .slice none 0 0, .slice none 0 0]] W fun e w' => e = .returned (.tuple #[.agg #[.slice none 0 0, .slice none 0 0], .int .i64 5]) ∧ Below W.heap.size W w' :=
  (make_any W (gE n) ⟨Row.empty _ _, Row.of_blk h rfl, Row.empty _ _, Row.empty _ _, by simp [gE]⟩ (szE _) (by simp [gE])).mono fun e w' hv => ⟨by rw [hv.no (mayE _), chE]; rfl, hv.b⟩
theorem inA : tsA.filter (F4.intoB 1 1) = [⟨1, 0, 1, 5⟩] := by kernel_rfl
theorem outA : tsA.filter (F4.outB 2 1) = [⟨2, 1, 0, 2⟩] := by kernel_rfl
theorem baA : F4.backL esA tsA = [⟨1, ⟨#[97]⟩, ⟨#[98]⟩, 5⟩, ⟨2, ⟨#[98]⟩, ⟨#[97]⟩, 2⟩] := by kernel_rfl
section
variable {W : World} {g1 g2 c1 c2 : Nat}
theorem into_aw (h : HR W g2 (tsA.flatMap tiC)) : Calls Try.prog 24 #[.agg #[.slice (some ⟨g1, 0, none⟩) 2 c1, .slice (some ⟨g2, 0, none⟩) 2 c2], .int .i64 1, .int .i64 1] W fun e w' => ∃ g c, e = .returned (.slice (some ⟨g, 0, none⟩) 1 c) ∧ HR w' g (tiC ⟨1, 0, 1, 5⟩) ∧ Below W.heap.size W w' :=
  (F4.into_any W (some ⟨g1, 0, none⟩) (some ⟨g2, 0, none⟩) 2 c1 c2 tsA 1 1 h.row (by decide)).mono fun e w' hv => by
    obtain ⟨v, rfl, ho, hb⟩ := hv
    rw [inA] at ho
    obtain ⟨g, c, rfl, r⟩ := own_hr (n := 0) ho
    exact ⟨g, c, rfl, by simpa using r, hb⟩
theorem out_aw (h : HR W g2 (tsA.flatMap tiC)) : Calls Try.prog 25 #[.agg #[.slice (some ⟨g1, 0, none⟩) 2 c1, .slice (some ⟨g2, 0, none⟩) 2 c2], .int .i64 2, .int .i64 1] W fun e w' => ∃ g c, e = .returned (.slice (some ⟨g, 0, none⟩) 1 c) ∧ HR w' g (tiC ⟨2, 1, 0, 2⟩) ∧ Below W.heap.size W w' :=
  (F4.out_any W (some ⟨g1, 0, none⟩) (some ⟨g2, 0, none⟩) 2 c1 c2 tsA 2 1 h.row (by decide)).mono fun e w' hv => by
    obtain ⟨v, rfl, ho, hb⟩ := hv
    rw [outA] at ho
    obtain ⟨g, c, rfl, r⟩ := own_hr (n := 0) ho
    exact ⟨g, c, rfl, by simpa using r, hb⟩
theorem back_aw (h1 : HR W g1 (esA.flatMap evC)) (h : HR W g2 (tsA.flatMap tiC)) : Calls Try.prog 22 #[.agg #[.slice (some ⟨g1, 0, none⟩) 2 c1, .slice (some ⟨g2, 0, none⟩) 2 c2]] W fun e w' => ∃ ge ce g c, e = .returned (.agg #[.slice none 0 0, .slice (some ⟨ge, 0, none⟩) 2 ce, .slice (some ⟨g, 0, none⟩) 2 c, .slice none 0 0]) ∧ HR w' g ([⟨1, ⟨#[97]⟩, ⟨#[98]⟩, 5⟩, ⟨2, ⟨#[98]⟩, ⟨#[97]⟩, 2⟩].flatMap rlC) ∧ Below W.heap.size W w' :=
  (F4.back_any W (some ⟨g1, 0, none⟩) (some ⟨g2, 0, none⟩) c1 c2 esA tsA h1.row h.row (by decide) (by decide)).mono fun e w' hv => by
    obtain ⟨ve, vr, rfl, he, ho, hb⟩ := hv
    rw [baA] at ho
    obtain ⟨g, c, rfl, r⟩ := own_hr (n := 1) ho
    obtain ⟨ge, ce, rfl, _⟩ := own_hr (n := 1) he
    exact ⟨ge, ce, g, c, rfl, r, hb⟩
theorem names_aw (h1 : HR W g1 (esA.flatMap evC)) : Calls Try.prog 46 #[.agg #[.slice (some ⟨g1, 0, none⟩) 2 c1, .slice (some ⟨g2, 0, none⟩) 2 c2]] W fun e w' => ∃ g c, e = .returned (.slice (some ⟨g, 0, none⟩) 2 c) ∧ HR w' g [.string ⟨#[97]⟩, .string ⟨#[98]⟩] ∧ Below W.heap.size W w' :=
  (F4.names_fl W (some ⟨g1, 0, none⟩) (some ⟨g2, 0, none⟩) c1 2 c2 esA h1.row (by decide)).mono fun e w' hv => by
    obtain ⟨v, rfl, ho, hb⟩ := hv
    obtain ⟨g, c, rfl, r⟩ := own_hr (n := 1) ho
    exact ⟨g, c, rfl, r, hb⟩
end
end Go.Proofs.Ytplplkchibefjaa.P4
namespace Go.Proofs.Ytplplkchibefjaa.P4
open Go.RowKit Go.Shelf

theorem eql_tiA (w : World) : (binOp .eql 49 (.agg #[.int .i64 1, .int .i64 0, .int .i64 1, .int .i64 5]) (.agg #[.int .i64 1, .int .i64 0, .int .i64 1, .int .i64 5])).run Try.prog w = .ok (.bool true) w := by
  have u0 := Try.underlying3
  have a0 := Try.isAgg3
  have z0 := Try.sizeOf3
  have hS : Try.prog.underlying 49 = some (.struct (Try.prog.fieldsOf 49)) := by kernel_rfl
  have hp : Try.prog.stoodInHeld 49 = false := by kernel_rfl
  rw [run_eql_struct, show (10000 : Nat) = 9999 + 1 from rfl, run_equalIn_agg w 9999 49 _ _ hS hp]
  simp only [Program.fieldsOf, Try.underlying49]
  go_simp
theorem blk_old {w : World} {o x : Obj} {b : Nat} (h : w.heap[b]? = some x) : (w.alloc o).heap[b]? = some x := (Below.heap_alloc _ _ _ (Array.getElem?_eq_some_iff.1 h).1).trans h
theorem hA_new' {w : World} {o : Obj} {b : Nat} (h : b = w.heap.size) : (w.alloc o).heap[b]? = some o := by rw [h]; exact heap_alloc_new _ _
/-- What stands behind Make. -/
structure AK (w : World) (F g1 c1 g2 c2 : Nat) (W : World) : Prop where
  b : Below w.heap.size w W
  f : W.heap[F]? = some (.cells #[.slice (some ⟨g1, 0, none⟩) 2 c1, .slice (some ⟨g2, 0, none⟩) 2 c2] 32 (0, 0))
  e : HR W g1 (esA.flatMap evC)
  t : HR W g2 (tsA.flatMap tiC)
section
variable {w W W' : World} {F g1 c1 g2 c2 : Nat}
theorem ak_call (hb : Below W.heap.size W W') (h : AK w F g1 c1 g2 c2 W) : AK w F g1 c1 g2 c2 W' := ⟨h.b.trans (hb.mono h.b.size), blk_call h.f hb, h.e.call hb, h.t.call hb⟩
theorem ak_drew (h : AK w F g1 c1 g2 c2 W) : AK w F g1 c1 g2 c2 W.drew := ak_call (show Below W.heap.size W W.drew from ⟨rfl, rfl, rfl, Nat.le_refl _, fun _ _ => rfl⟩) h
theorem ak_alloc (o : Obj) (h : AK w F g1 c1 g2 c2 W) : AK w F g1 c1 g2 c2 (W.alloc o) := ak_call ((Below.refl _ _).alloc (Nat.le_refl _) _) h
theorem ak_all (h : AK w F g1 c1 g2 c2 W) : AK w F g1 c1 g2 c2 W ∧ W.cell? ⟨F, 0, none⟩ = some (.slice (some ⟨g1, 0, none⟩) 2 c1) ∧ W.cell? ⟨F, 1, none⟩ = some (.slice (some ⟨g2, 0, none⟩) 2 c2) := ⟨h, cell_blk h.f rfl, cell_blk h.f rfl⟩
end
set_option maxRecDepth 100000 in
set_option maxHeartbeats 8000000 in
theorem awake_any (w : World) : Calls Try.prog 13 #[] w fun e w' => e = .returned (.bool true) ∧ Below w.heap.size w w' := by
  obtain ⟨W0, hW0⟩ : ∃ W0, W0 = (((w.alloc (.cells #[.string ⟨#[103]⟩, .string ⟨#[]⟩] 83)).alloc (.cells #[.string ⟨#[97]⟩, .string ⟨#[]⟩, .string ⟨#[114]⟩, .bool false, .bool false, .int .i64 (-1), .string ⟨#[98]⟩, .string ⟨#[103]⟩, .string ⟨#[114]⟩, .bool false, .bool false, .int .i64 (-1)] 46)).alloc (.cells #[.int .i64 1, .string ⟨#[97]⟩, .string ⟨#[103]⟩, .int .i64 3, .int .i64 1, .string ⟨#[97]⟩, .string ⟨#[98]⟩, .int .i64 5, .int .i64 2, .string ⟨#[103]⟩, .string ⟨#[97]⟩, .int .i64 2] 53)).alloc (.cells #[.slice (some ⟨w.heap.size, 0, none⟩) 1 1, .slice (some ⟨w.heap.size + 1, 0, none⟩) 2 2, .slice (some ⟨w.heap.size + 1 + 1, 0, none⟩) 3 3, .slice none 0 0] 27) := ⟨_, rfl⟩
  have G0 : GA w W0 := by
    rw [hW0]
    refine ⟨blk_old (blk_old (blk_old (heap_alloc_new _ _))), blk_old (blk_old ?_), blk_old ?_⟩
    · have h := heap_alloc_new (w.alloc (.cells #[.string ⟨#[103]⟩, .string ⟨#[]⟩] 83)) (.cells #[.string ⟨#[97]⟩, .string ⟨#[]⟩, .string ⟨#[114]⟩, .bool false, .bool false, .int .i64 (-1), .string ⟨#[98]⟩, .string ⟨#[103]⟩, .string ⟨#[114]⟩, .bool false, .bool false, .int .i64 (-1)] 46)
      rw [World.size_alloc] at h; exact h
    · have h := heap_alloc_new ((w.alloc (.cells #[.string ⟨#[103]⟩, .string ⟨#[]⟩] 83)).alloc (.cells #[.string ⟨#[97]⟩, .string ⟨#[]⟩, .string ⟨#[114]⟩, .bool false, .bool false, .int .i64 (-1), .string ⟨#[98]⟩, .string ⟨#[103]⟩, .string ⟨#[114]⟩, .bool false, .bool false, .int .i64 (-1)] 46)) (.cells #[.int .i64 1, .string ⟨#[97]⟩, .string ⟨#[103]⟩, .int .i64 3, .int .i64 1, .string ⟨#[97]⟩, .string ⟨#[98]⟩, .int .i64 5, .int .i64 2, .string ⟨#[103]⟩, .string ⟨#[97]⟩, .int .i64 2] 53)
      rw [World.size_alloc, World.size_alloc] at h; exact h
  have hB0 : Below w.heap.size w W0 := by
    rw [hW0]
    exact ((((Below.refl _ _).alloc (Nat.le_refl _) _).alloc (by simp) _).alloc (by simp; omega) _).alloc (by simp; omega) _
  have HG0 := Lib.hid G0
  have HB0 := Lib.hid hB0
  have HW0 := Lib.hid hW0
  clear G0 hB0 hW0
  go_enter Try.func13, Try.ntmps13
  go_wp2_with fail
  rw [← HW0.out]
  refine (make_aw w W0 HG0.out).mono ?_
  rintro e w1 ⟨g1, c1, g2, c2, rfl, r1, r2, hb⟩
  have K1 : Hid (AK w w1.heap.size g1 c1 g2 c2 (w1.alloc (.cells #[.slice (some ⟨g1, 0, none⟩) 2 c1, .slice (some ⟨g2, 0, none⟩) 2 c2] 32))) := Lib.hid ⟨(HB0.out.trans (hb.mono HB0.out.size)).alloc (Nat.le_trans HB0.out.size hb.size) _, heap_alloc_new _ _, r1.alloc _, r2.alloc _⟩
  obtain ⟨F, hF⟩ : ∃ F, F = w1.heap.size := ⟨_, rfl⟩
  have HF := Lib.hid hF
  rw [← hF] at K1
  clear r1 r2 hb HG0 HB0 HW0 hF
  go_wp2_with fail
  refine (make_awE _ _ (hA_new' (by simp))).mono ?_
  rintro e w2 ⟨rfl, hb⟩
  have K2 := Lib.hid (ak_alloc (.cells #[.slice none 0 0, .slice none 0 0] 32) (ak_call hb (ak_alloc _ K1.out)))
  clear hb K1
  have k2 := K2.out
  obtain ⟨W2, hW2⟩ : ∃ W2, W2 = w2.alloc (.cells #[.slice none 0 0, .slice none 0 0] 32) := ⟨_, rfl⟩
  have HW2 := Lib.hid hW2
  rw [← hW2] at k2 K2
  clear hW2
  go_wp2_with fail
  rw [← HW2.out, ← HF.out]
  go_region_held3 (fun W => AK w F g1 c1 g2 c2 W ∧ W.cell? ⟨F, 0, none⟩ = some (.slice (some ⟨g1, 0, none⟩) 2 c1) ∧ W.cell? ⟨F, 1, none⟩ = some (.slice (some ⟨g2, 0, none⟩) 2 c2))
    (((try go_split_ands); (first | exact ak_all (by with_reducible assumption) | exact ak_all (ak_drew (by with_reducible assumption)) | exact ak_all (ak_call (by with_reducible assumption) (by with_reducible assumption)))))
    (first
      | (go_at_call 24; go_split_ands; refine (into_aw (AK.t (by with_reducible assumption))).mono ?_; rintro e w3 ⟨ig, ic, rfl, ri, hb3⟩)
      | (go_at_call 25; go_split_ands; refine (out_aw (AK.t (by with_reducible assumption))).mono ?_; rintro e w4 ⟨og, oc, rfl, ro, hb4⟩))
  have K4 := Lib.hid (ak_call hb4 (ak_call hb3 (ak_drew K2.out)))
  have O4 := Lib.hid ro
  clear hb3 hb4 k2 K2 ri ro HW2
  obtain ⟨_, c0, c1'⟩ := ak_all K4.out
  have ll := Array.getElem?_eq_some_iff.1 K4.out.f
  have ll := ll.1
  go_wp2_with fail
  refine (back_aw K4.out.e K4.out.t).mono ?_
  rintro e w5 ⟨ge, ce, gr, cr, rfl, r5, hb5⟩
  have K5 := Lib.hid (ak_alloc (.cells #[.slice none 0 0, .slice (some ⟨ge, 0, none⟩) 2 ce, .slice (some ⟨gr, 0, none⟩) 2 cr, .slice none 0 0] 27) (ak_call hb5 K4.out))
  have O5 := Lib.hid ((O4.out.call hb5).alloc (.cells #[.slice none 0 0, .slice (some ⟨ge, 0, none⟩) 2 ce, .slice (some ⟨gr, 0, none⟩) 2 cr, .slice none 0 0] 27))
  have R5 := Lib.hid (r5.alloc (.cells #[.slice none 0 0, .slice (some ⟨ge, 0, none⟩) 2 ce, .slice (some ⟨gr, 0, none⟩) 2 cr, .slice none 0 0] 27))
  have B5 := Lib.hid (heap_alloc_new w5 (.cells #[.slice none 0 0, .slice (some ⟨ge, 0, none⟩) 2 ce, .slice (some ⟨gr, 0, none⟩) 2 cr, .slice none 0 0] 27))
  clear hb5 r5 K4 O4 c0 c1' ll
  obtain ⟨_, c0, c1'⟩ := ak_all K5.out
  have ll := Array.getElem?_eq_some_iff.1 K5.out.f
  have ll := ll.1
  go_wp2_with fail
  refine (names_aw K5.out.e).mono ?_
  rintro e w6 ⟨gn, cn, rfl, r6, hb6⟩
  have K6 := Lib.hid (ak_call hb6 K5.out)
  have O6 := Lib.hid (O5.out.call hb6)
  have R6 := Lib.hid (R5.out.call hb6)
  have B6 := Lib.hid (blk_call B5.out hb6)
  clear hb6 K5 O5 R5 B5 c0 c1' ll
  obtain ⟨_, c0, c1'⟩ := ak_all K6.out
  have ll := Array.getElem?_eq_some_iff.1 K6.out.f
  have ll := ll.1
  have t0 : w6.cell? ⟨g2, 0, none⟩ = some (.int .i64 1) := K6.out.t.c 0 _ rfl
  have t1 : w6.cell? ⟨g2, 1, none⟩ = some (.int .i64 0) := K6.out.t.c 1 _ rfl
  have t2 : w6.cell? ⟨g2, 2, none⟩ = some (.int .i64 1) := K6.out.t.c 2 _ rfl
  have t3 : w6.cell? ⟨g2, 3, none⟩ = some (.int .i64 5) := K6.out.t.c 3 _ rfl
  have o2 : w6.cell? ⟨og, 2, none⟩ = some (.int .i64 0) := O6.out.c 2 _ rfl
  have b0 : w6.cell? ⟨w5.heap.size, 0, none⟩ = some (.slice none 0 0) := cell_blk B6.out rfl
  have b2 : w6.cell? ⟨w5.heap.size, 2, none⟩ = some (.slice (some ⟨gr, 0, none⟩) 2 cr) := cell_blk B6.out rfl
  have q5 : w6.cell? ⟨gr, 5, none⟩ = some (.string ⟨#[98]⟩) := R6.out.c 5 _ rfl
  have n1 : w6.cell? ⟨gn, 1, none⟩ = some (.string ⟨#[98]⟩) := r6.c 1 _ rfl
  have heq := fun W => eql_tiA W
  clear r6 O6 R6 B6
  go_wp2_with fail
  go_ret
  exact ⟨rfl, K6.out.b⟩
end Go.Proofs.Ytplplkchibefjaa.P4
