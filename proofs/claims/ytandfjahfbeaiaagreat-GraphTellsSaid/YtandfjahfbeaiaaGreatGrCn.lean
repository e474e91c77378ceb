/-
  Contract of graph.Clone, of every graph.
-/
import Derived.Test.YtandfjahfbeaiaaGreatGrSm
import Derived.Deep.RegionHeld3
import Derived.Deep.DrawnRows
import Derived.Deep.DeepCutAuto
import Derived.Laws.OwnMore
namespace Go.Proofs.YtandfjahfbeaiaaGreat
open Go.RowKit Go.Shelf
attribute [local go_sem ↓] Go.wp_at_zero Go.wp_at_succ

def CloneOf (g : Gr) (w : World) (e : Ending) (w' : World) : Prop :=
  ∃ c : Gr, e = .returned (.agg #[.slice c.ga c.gs.length c.gc, .slice c.ea c.es.length c.ec, .slice c.ra c.rs.length c.rc, .slice c.ua c.us.length c.uc]) ∧ SameG c g ∧ OwnG w' w.heap.size c ∧ Below w.heap.size w w'
/-- The boxes of the argument and of the result. -/
def box2 (w : World) (g : Gr) : World := (boxW w g).alloc (.cells #[.slice none 0 0, .slice none 0 0, .slice none 0 0, .slice none 0 0] 27)
structure Kp (w : World) (g : Gr) (W : World) : Prop where
  b : Below (w.heap.size + 2) (box2 w g) W
theorem kp_old {w W : World} {g : Gr} (h : Kp w g W) : Below w.heap.size w W :=
  (box_below w g).trans (((Below.refl _ _).alloc (by rw [box_size]; omega) _).trans (h.b.mono (by omega)))
theorem kp_size {w W : World} {g : Gr} (h : Kp w g W) : w.heap.size + 2 ≤ W.heap.size := by
  have := h.b.size; simp only [box2, World.size_alloc, box_size] at this; exact this
theorem kp_all {w W : World} {g : Gr} (h : Kp w g W) : Kp w g W ∧ W.cell? ⟨w.heap.size, 0, none⟩ = some (.slice g.ga g.gs.length g.gc) ∧ W.cell? ⟨w.heap.size, 1, none⟩ = some (.slice g.ea g.es.length g.ec) ∧ W.cell? ⟨w.heap.size, 2, none⟩ = some (.slice g.ra g.rs.length g.rc) ∧ W.cell? ⟨w.heap.size, 3, none⟩ = some (.slice g.ua g.us.length g.uc) :=
  ⟨h, box_cells (((Below.refl _ _).alloc (by rw [box_size]; omega) _).trans (h.b.mono (by omega)))⟩
structure Fresh (W : World) (b : Nat) : Prop where
  h : W.heap[b]? = some (.cells #[.slice none 0 0, .slice none 0 0, .slice none 0 0, .slice none 0 0] 27 (0, 0))
theorem fresh_new (W : World) : Fresh (W.alloc (.cells #[.slice none 0 0, .slice none 0 0, .slice none 0 0, .slice none 0 0] 27)) W.heap.size := ⟨heap_new _ _⟩
theorem fresh_call {W W' : World} {b : Nat} (hb : Below W.heap.size W W') (h : Fresh W b) : Fresh W' b := ⟨(hb.block b (Array.getElem?_eq_some_iff.1 h.h).1).trans h.h⟩
theorem fresh_cells {W : World} {b : Nat} (h : Fresh W b) : W.cell? ⟨b, 0, none⟩ = some (.slice none 0 0) ∧ W.cell? ⟨b, 1, none⟩ = some (.slice none 0 0) ∧ W.cell? ⟨b, 2, none⟩ = some (.slice none 0 0) ∧ W.cell? ⟨b, 3, none⟩ = some (.slice none 0 0) ∧
    W.frozen? ⟨b, 0, none⟩ = false ∧ W.frozen? ⟨b, 1, none⟩ = false ∧ W.frozen? ⟨b, 2, none⟩ = false ∧ W.frozen? ⟨b, 3, none⟩ = false :=
  ⟨cell_blk h.h rfl, cell_blk h.h rfl, cell_blk h.h rfl, cell_blk h.h rfl, frozen_blk h.h, frozen_blk h.h, frozen_blk h.h, frozen_blk h.h⟩
theorem kp_set {w W : World} {g : Gr} (h : Kp w g W) {b i : Nat} (hb : w.heap.size + 2 ≤ b) (v : Value) : Kp w g (W.setCell ⟨b, i, none⟩ v) := ⟨h.b.setCell hb v⟩
theorem kp_set4 {w W : World} {g : Gr} (h : Kp w g W) {b : Nat} (hb : w.heap.size + 2 ≤ b) (p q r s : Value) : Kp w g ((((W.setCell ⟨b, 0, none⟩ p).setCell ⟨b, 1, none⟩ q).setCell ⟨b, 2, none⟩ r).setCell ⟨b, 3, none⟩ s) :=
  kp_set (kp_set (kp_set (kp_set h hb p) hb q) hb r) hb s
theorem kp_begin (w : World) (g : Gr) : Kp w g (box2 w g) := ⟨Below.refl _ _⟩
theorem kp_drew {w W : World} {g : Gr} (h : Kp w g W) : Kp w g W.drew := ⟨⟨h.b.os, h.b.tape, h.b.output, h.b.size, h.b.block⟩⟩
theorem kp_alloc {w W : World} {g : Gr} (h : Kp w g W) (o : Obj) : Kp w g (W.alloc o) := ⟨h.b.alloc (kp_size h) o⟩
theorem kp_call {w W W' : World} {g : Gr} (hb : Below W.heap.size W W') (h : Kp w g W) : Kp w g W' := ⟨h.b.trans (hb.mono (kp_size h))⟩
/-- What stands behind the copies of the four lists. -/
def CutRel (g : Gr) (w : World) (s : Value) (W : World) : Prop :=
  ∃ (b : Nat) (c : Gr), s = .pointer (some ⟨b, 0, none⟩) ∧ c.gs = g.gs ∧ c.es = g.es ∧ c.rs = g.rs ∧ c.us = g.us ∧
    W.heap[b]? = some (.cells #[.slice c.ga c.gs.length c.gc, .slice c.ea c.es.length c.ec, .slice c.ra c.rs.length c.rc, .slice c.ua c.us.length c.uc] 27 (0, 0)) ∧
    w.heap.size + 2 ≤ b ∧ W.ownsRow (w.heap.size + 2) 39 2 (.slice c.ga c.gs.length c.gc) c.gs.length (c.gs.flatMap gpC) ∧
    W.ownsRow (w.heap.size + 2) 41 6 (.slice c.ea c.es.length c.ec) c.es.length (c.es.flatMap evC) ∧
    W.ownsRow (w.heap.size + 2) 43 4 (.slice c.ra c.rs.length c.rc) c.rs.length (c.rs.flatMap rlC) ∧
    W.ownsRow (w.heap.size + 2) 45 3 (.slice c.ua c.us.length c.uc) c.us.length (c.us.flatMap usC) ∧ Kp w g W

theorem later_alloc {W W' : World} {o : Obj} (h : Below (W.alloc o).heap.size (W.alloc o) W') : Below W.heap.size W W' :=
  ((Below.refl _ _).alloc (Nat.le_refl _) _).trans (h.mono (by simp))
theorem own_far {w : World} {B e z n b : Nat} {v : Value} {xs : List Value} {cs : Array Value} {T : TypeId} (hown : w.ownsRow B e z v n xs) (h : w.heap[b]? = some (.cells cs T (0, 0))) (he : e ≠ T) : v.ownBlock ≠ some b := by
  rcases hown.2 with ⟨rfl, _⟩ | ⟨g, cap, cur, rfl, _, hg, _⟩
  · intro hh; cases hh
  · intro hh
    simp only [Value.ownBlock, Option.some.injEq] at hh
    subst hh
    rw [h] at hg
    simp only [Option.some.injEq, Obj.cells.injEq] at hg
    exact he hg.2.1.symm
theorem own_set {w : World} {B e z n b i : Nat} {v : Value} {xs : List Value} (h : w.ownsRow B e z v n xs) (hne : v.ownBlock ≠ some b) (u : Value) : (w.setCell ⟨b, i, none⟩ u).ownsRow B e z v n xs :=
  h.kept (row := some b) ⟨rfl, rfl, rfl, by simp, fun k _ hk => Below.heap_setCell _ _ _ _ (fun e => hk (by rw [e]))⟩ (.inr hne)
def fourC (g : Gr) (a1 a2 a3 a4 : Option Addr) (c1 c2 c3 c4 : Nat) : Array Value := #[.slice a1 g.gs.length c1, .slice a2 g.es.length c2, .slice a3 g.rs.length c3, .slice a4 g.us.length c4]
theorem fin_alloc {w W : World} {g : Gr} {a1 a2 a3 a4 : Option Addr} {c1 c2 c3 c4 : Nat} (h : Kp w g W)
    (r1 : W.ownsRow (w.heap.size + 2) 39 2 (.slice a1 g.gs.length c1) g.gs.length (g.gs.flatMap gpC)) (r2 : W.ownsRow (w.heap.size + 2) 41 6 (.slice a2 g.es.length c2) g.es.length (g.es.flatMap evC))
    (r3 : W.ownsRow (w.heap.size + 2) 43 4 (.slice a3 g.rs.length c3) g.rs.length (g.rs.flatMap rlC)) (r4 : W.ownsRow (w.heap.size + 2) 45 3 (.slice a4 g.us.length c4) g.us.length (g.us.flatMap usC)) :
    CutRel g w (.pointer (some ⟨W.heap.size, 0, none⟩)) (W.alloc (.cells #[.slice a1 g.gs.length c1, .slice a2 g.es.length c2, .slice a3 g.rs.length c3, .slice a4 g.us.length c4] 27)) :=
  ⟨W.heap.size, ⟨g.gs, g.es, g.rs, g.us, a1, c1, a2, c2, a3, c3, a4, c4⟩, rfl, rfl, rfl, rfl, rfl, heap_new _ _, kp_size h, r1.alloc _, r2.alloc _, r3.alloc _, r4.alloc _, kp_alloc h _⟩
theorem fin_set {w W : World} {g : Gr} {a1 a2 a3 a4 : Option Addr} {c1 c2 c3 c4 b : Nat} (h : Kp w g W) (hf : Fresh W b) (hb : w.heap.size + 2 ≤ b)
    (r1 : W.ownsRow (w.heap.size + 2) 39 2 (.slice a1 g.gs.length c1) g.gs.length (g.gs.flatMap gpC)) (r2 : W.ownsRow (w.heap.size + 2) 41 6 (.slice a2 g.es.length c2) g.es.length (g.es.flatMap evC))
    (r3 : W.ownsRow (w.heap.size + 2) 43 4 (.slice a3 g.rs.length c3) g.rs.length (g.rs.flatMap rlC)) (r4 : W.ownsRow (w.heap.size + 2) 45 3 (.slice a4 g.us.length c4) g.us.length (g.us.flatMap usC)) :
    CutRel g w (.pointer (some ⟨b, 0, none⟩)) ((((W.setCell ⟨b, 0, none⟩ (.slice a1 g.gs.length c1)).setCell ⟨b, 1, none⟩ (.slice a2 g.es.length c2)).setCell ⟨b, 2, none⟩ (.slice a3 g.rs.length c3)).setCell ⟨b, 3, none⟩ (.slice a4 g.us.length c4)) := by
  have n1 := own_far r1 hf.h (by decide)
  have n2 := own_far r2 hf.h (by decide)
  have n3 := own_far r3 hf.h (by decide)
  have n4 := own_far r4 hf.h (by decide)
  exact ⟨b, ⟨g.gs, g.es, g.rs, g.us, a1, c1, a2, c2, a3, c3, a4, c4⟩, rfl, rfl, rfl, rfl, rfl, blk_set (blk_set (blk_set (blk_set hf.h))), hb,
    own_set (own_set (own_set (own_set r1 n1 _) n1 _) n1 _) n1 _, own_set (own_set (own_set (own_set r2 n2 _) n2 _) n2 _) n2 _, own_set (own_set (own_set (own_set r3 n3 _) n3 _) n3 _) n3 _, own_set (own_set (own_set (own_set r4 n4 _) n4 _) n4 _) n4 _, kp_set4 h hb _ _ _ _⟩

theorem flat_set {α : Type} (enc : α → List Value) (k : Nat) (hk : ∀ x, (enc x).length = k) : ∀ (l : List α) (i : Nat) (_ : i < l.length) (j : Nat) (_ : j < k) (v : Value) (y : α) (_ : ∀ x, l[i]? = some x → enc y = (enc x).set j v), (l.flatMap enc).set (i * k + j) v = (l.set i y).flatMap enc
  | [], i, h, _, _, _, _, _ => by simp at h
  | x :: r, 0, _, j, hj, v, y, hy => by
    rw [List.flatMap_cons, List.set_cons_zero, List.flatMap_cons, Nat.zero_mul, Nat.zero_add, List.set_append_left _ _ (by rw [hk]; exact hj), hy x rfl]
  | x :: r, i + 1, h, j, hj, v, y, hy => by
    have e : (i + 1) * k = i * k + k := Nat.succ_mul i k
    rw [List.flatMap_cons, List.set_cons_succ, List.flatMap_cons, List.set_append_right _ _ (by rw [hk]; omega), hk, show (i + 1) * k + j - k = i * k + j from by omega, flat_set enc k hk r i (by simpa using h) j hj v y (fun z hz => hy z (by simpa using hz))]
theorem own_some {w : World} {B e z n c : Nat} {A : Option Addr} {xs : List Value} (h : w.ownsRow B e z (.slice A n c) n xs) (hn : 0 < n) : ∃ g cur, A = some ⟨g, 0, none⟩ ∧ B ≤ g ∧ w.heap[g]? = some (.cells cur e (0, 0)) ∧ n ≤ c := by
  rcases h.2 with ⟨_, h0⟩ | ⟨g, cap, cur, hv, hb, hg, hc, _⟩
  · omega
  · injection hv with h1 _ h3; exact ⟨g, cur, h1, hb, hg, by omega⟩
/-- The clone's users, of which the first k have roles of their own. -/
structure ClU (g : Gr) (w : World) (B k : Nat) (ls : List Us) (ua : Option Addr) (uc : Nat) : Prop where
  len : ls.length = g.us.length
  key : ∀ j, j < g.us.length → usK ls[j]! = usK g.us[j]!
  rest : ∀ j, k ≤ j → ls[j]! = g.us[j]!
  ro : ∀ j, j < k → w.ownsRow B 9 1 (.slice ls[j]!.ra ls[j]!.roles.length ls[j]!.rc) ls[j]!.roles.length (ls[j]!.roles.map Value.string)
  us : w.ownsRow B 45 3 (.slice ua g.us.length uc) g.us.length (ls.flatMap usC)
structure ClG (g : Gr) (w : World) (B b : Nat) (ga ea ra ua : Option Addr) (gc ec rc uc : Nat) : Prop where
  box : w.heap[b]? = some (.cells #[.slice ga g.gs.length gc, .slice ea g.es.length ec, .slice ra g.rs.length rc, .slice ua g.us.length uc] 27 (0, 0))
  gs : w.ownsRow B 39 2 (.slice ga g.gs.length gc) g.gs.length (g.gs.flatMap gpC)
  es : w.ownsRow B 41 6 (.slice ea g.es.length ec) g.es.length (g.es.flatMap evC)
  rs : w.ownsRow B 43 4 (.slice ra g.rs.length rc) g.rs.length (g.rs.flatMap rlC)
theorem ClG.below {g : Gr} {w w' : World} {B b : Nat} {ga ea ra ua : Option Addr} {gc ec rc uc : Nat} (h : ClG g w B b ga ea ra ua gc ec rc uc) (hb : Below w.heap.size w w') : ClG g w' B b ga ea ra ua gc ec rc uc :=
  ⟨(hb.block _ (Array.getElem?_eq_some_iff.1 h.box).1).trans h.box, own_below h.gs hb, own_below h.es hb, own_below h.rs hb⟩
theorem ClG.store {g : Gr} {w : World} {B b gb i : Nat} {cur : Array Value} {ga ea ra ua : Option Addr} {gc ec rc uc : Nat} (h : ClG g w B b ga ea ra ua gc ec rc uc) (hg : w.heap[gb]? = some (.cells cur 45 (0, 0))) (v : Value) : ClG g (w.setCell ⟨gb, i, none⟩ v) B b ga ea ra ua gc ec rc uc :=
  ⟨(blk_other (by rintro rfl; have h1 := h.box; rw [hg] at h1; simp at h1)).trans h.box, own_set h.gs (own_far h.gs hg (by decide)) _, own_set h.es (own_far h.es hg (by decide)) _, own_set h.rs (own_far h.rs hg (by decide)) _⟩
theorem ClU.below {g : Gr} {w w' : World} {B k : Nat} {ls : List Us} {ua : Option Addr} {uc : Nat} (h : ClU g w B k ls ua uc) (hb : Below w.heap.size w w') : ClU g w' B k ls ua uc :=
  ⟨h.len, h.key, h.rest, fun j hj => own_below (h.ro j hj) hb, own_below h.us hb⟩
theorem ClU.step {g : Gr} {w : World} {B k gb : Nat} {cur : Array Value} {ls : List Us} {ua : Option Addr} {uc : Nat} {a : Option Addr} {c : Nat} (h : ClU g w B k ls ua uc) (hk : k < g.us.length) (hua : ua = some ⟨gb, 0, none⟩) (hg : w.heap[gb]? = some (.cells cur 45 (0, 0)))
    (ho : w.ownsRow B 9 1 (.slice a g.us[k]!.roles.length c) g.us[k]!.roles.length (g.us[k]!.roles.map Value.string)) :
    ClU g (w.setCell ⟨gb, k * 3 + 1, none⟩ (.slice a g.us[k]!.roles.length c)) B (k + 1) (ls.set k { g.us[k]! with ra := a, rc := c }) ua uc := by
  subst hua
  have hl := h.len
  have at_k : (ls.set k { g.us[k]! with ra := a, rc := c })[k]! = { g.us[k]! with ra := a, rc := c } := by
    rw [getElem!_pos _ k (by simp; omega), List.getElem_set_self]
  have at_o : ∀ j, j ≠ k → (ls.set k { g.us[k]! with ra := a, rc := c })[j]! = ls[j]! := by
    intro j hj
    by_cases hjl : j < ls.length
    · rw [getElem!_pos _ j (by simpa using hjl), getElem!_pos ls j hjl, List.getElem_set_ne (by omega)]
    · rw [getElem!_neg _ j (by simpa using hjl), getElem!_neg ls j hjl]
  refine ⟨by simpa using hl, fun j hj => ?_, fun j hj => ?_, fun j hj => ?_, ?_⟩
  · by_cases e : j = k
    · subst e; rw [at_k]; rfl
    · rw [at_o j e]; exact h.key j hj
  · rw [at_o j (by omega)]; exact h.rest j (by omega)
  · by_cases e : j = k
    · subst e; rw [at_k]; exact own_set ho (own_far ho hg (by decide)) _
    · rw [at_o j e]; exact own_set (h.ro j (by omega)) (own_far (h.ro j (by omega)) hg (by decide)) _
  · have hst := (h.us.stored (k * 3 + 1) (.slice a g.us[k]!.roles.length c)).1
    rw [flat_set usC 3 (fun _ => rfl) ls k (by omega) 1 (by omega) _ { g.us[k]! with ra := a, rc := c } (fun x hx => ?_)] at hst
    · exact hst
    · have : x = g.us[k]! := by
        rw [← h.rest k (Nat.le_refl _), getElem!_pos ls k (by omega)]
        rw [List.getElem?_eq_getElem (by omega)] at hx
        exact (Option.some.inj hx).symm
      rw [this]; rfl
/-- Behind the copy of a user, within the statement that clones its roles: only row gb has turned. -/
structure R5 (gb : Nat) (W5 W : World) : Prop where
  b : W5.grownBy W (some gb)
theorem r5_begin (gb : Nat) (W : World) : R5 gb W W := ⟨World.grownBy.refl W _⟩
theorem r5_drew {gb : Nat} {W5 W : World} (h : R5 gb W5 W) : R5 gb W5 W.drew := ⟨⟨h.b.os, h.b.tape, h.b.output, h.b.size, h.b.block⟩⟩
theorem r5_call {gb : Nat} {W5 W W' : World} (hb : Below W.heap.size W W') (h : R5 gb W5 W) : R5 gb W5 W' :=
  ⟨⟨hb.os.trans h.b.os, hb.tape.trans h.b.tape, hb.output.trans h.b.output, Nat.le_trans h.b.size hb.size, fun i hi hn => (hb.block i (Nat.lt_of_lt_of_le hi h.b.size)).trans (h.b.block i hi hn)⟩⟩
theorem r5_set {gb i : Nat} {W5 W : World} (h : R5 gb W5 W) (v : Value) : R5 gb W5 (W.setCell ⟨gb, i, none⟩ v) :=
  ⟨⟨h.b.os, h.b.tape, h.b.output, by simpa [World.setCell] using h.b.size, fun k hk hn => (Below.heap_setCell _ _ _ _ (fun e => hn (by rw [e]))).trans (h.b.block k hk hn)⟩⟩
def At2 (gb : Nat) (W : World) (p q : Addr) (x y : Value) : Prop := (W.cell? p = some x ∧ p.block ≠ gb) ∧ W.cell? q = some y ∧ q.block ≠ gb
theorem r5_all {gb : Nat} {W5 W : World} {p q : Addr} {x y : Value} (h4 : Hid (At2 gb W5 p q x y)) (h : R5 gb W5 W) : R5 gb W5 W ∧ W.cell? p = some x ∧ W.cell? q = some y := by
  obtain ⟨⟨h1, n1⟩, h2, n2⟩ := h4.out
  exact ⟨h, (World.cell?_of_block (h.b.block _ (World.block_lt_of_cell? _ _ h1) (fun e => n1 (by injection e)))).trans h1, (World.cell?_of_block (h.b.block _ (World.block_lt_of_cell? _ _ h2) (fun e => n2 (by injection e)))).trans h2⟩
def set4 (W : World) (b : Nat) (p q r s : Value) : World := (((W.setCell ⟨b, 0, none⟩ p).setCell ⟨b, 1, none⟩ q).setCell ⟨b, 2, none⟩ r).setCell ⟨b, 3, none⟩ s
theorem own_set4 {w : World} {B e z n b : Nat} {v : Value} {xs : List Value} (h : w.ownsRow B e z v n xs) (hne : v.ownBlock ≠ some b) (p q r s : Value) : (set4 w b p q r s).ownsRow B e z v n xs :=
  own_set (own_set (own_set (own_set h hne _) hne _) hne _) hne _
theorem clone_fin {g : Gr} {w wr : World} {b : Nat} {ls : List Us} {ga ea ra ua : Option Addr} {gc ec rc uc : Nat} (hU : ClU g wr (w.heap.size + 2) g.us.length ls ua uc) (hG : ClG g wr (w.heap.size + 2) b ga ea ra ua gc ec rc uc) (hK : Kp w g wr) {cs : Array Value}
    (hrb : wr.heap[w.heap.size + 1]? = some (.cells cs 27 (0, 0))) (p q r s : Value) :
    CloneOf g w (.returned (.agg #[.slice ga g.gs.length gc, .slice ea g.es.length ec, .slice ra g.rs.length rc, .slice ua g.us.length uc])) (set4 wr (w.heap.size + 1) p q r s) := by
  have hl := hU.len
  refine ⟨⟨g.gs, g.es, g.rs, ls, ga, gc, ea, ec, ra, rc, ua, uc⟩, by simp only [hl], ⟨rfl, rfl, rfl, ?_⟩, ⟨?_, ?_, ?_, ?_, fun u hu => ?_⟩, ?_⟩
  · apply List.ext_getElem?
    intro j
    show (ls.map usK)[j]? = (g.us.map usK)[j]?
    rw [List.getElem?_map, List.getElem?_map]
    by_cases hj : j < g.us.length
    · have := hU.key j hj
      rw [getElem!_pos ls j (by omega), getElem!_pos g.us j hj] at this
      rw [List.getElem?_eq_getElem (by omega), List.getElem?_eq_getElem hj]
      exact congrArg some this
    · rw [List.getElem?_eq_none (by omega), List.getElem?_eq_none (by omega)]
  · exact own_base (own_set4 hG.gs (own_far hG.gs hrb (by decide)) _ _ _ _) (by omega)
  · exact own_base (own_set4 hG.es (own_far hG.es hrb (by decide)) _ _ _ _) (by omega)
  · exact own_base (own_set4 hG.rs (own_far hG.rs hrb (by decide)) _ _ _ _) (by omega)
  · have h := own_base (own_set4 hU.us (own_far hU.us hrb (by decide)) p q r s) (B' := w.heap.size) (by omega)
    rw [← hl] at h; exact h
  · obtain ⟨j, hj, rfl⟩ := List.getElem_of_mem hu
    have hj' : j < ls.length := hj
    have h := hU.ro j (by omega)
    rw [getElem!_pos ls j hj'] at h
    exact own_base (own_set4 h (own_far h hrb (by decide)) _ _ _ _) (by omega)
  · exact ((((kp_old hK).setCell (Nat.le_succ _) _).setCell (Nat.le_succ _) _).setCell (Nat.le_succ _) _).setCell (Nat.le_succ _) _
def ClRel (g : Gr) (w : World) (b : Nat) (ga ea ra ua : Option Addr) (gc ec rc uc : Nat) (i : Value) (wr : World) : Prop :=
  ∃ (k : Nat) (ls : List Us), k ≤ g.us.length ∧ i = .int .i64 k ∧ Hid (ClU g wr (w.heap.size + 2) k ls ua uc) ∧ Hid (ClG g wr (w.heap.size + 2) b ga ea ra ua gc ec rc uc) ∧ Hid (Kp w g wr)

set_option maxRecDepth 100000 in
set_option maxHeartbeats 16000000 in
theorem gclone_any (w : World) (g : Gr) (hI : InG w g) (hz : SzG g) :
    Calls Tryz.prog 16 #[.agg #[.slice g.ga g.gs.length g.gc, .slice g.ea g.es.length g.ec, .slice g.ra g.rs.length g.rc, .slice g.ua g.us.length g.uc]] w (CloneOf g w) := by
  have HI := Lib.hid hI
  have HZ := Lib.hid hz
  clear hI hz
  go_enter Tryz.func16, Tryz.ntmps16
  go_upto_region 1 with fail
  go_cut [3] (fun s3 wx => CutRel g w s3 wx)
  case first =>
    have hK := kp_begin w g
    obtain ⟨W0, hW0⟩ : ∃ W0, W0 = box2 w g := ⟨_, rfl⟩
    rw [← hW0] at hK
    simp only [box2, boxW] at hW0
    rw [← hW0]
    clear hW0
    go_region_held3 (fun W => Kp w g W ∧ W.cell? ⟨w.heap.size, 0, none⟩ = some (.slice g.ga g.gs.length g.gc) ∧ W.cell? ⟨w.heap.size, 1, none⟩ = some (.slice g.ea g.es.length g.ec) ∧ W.cell? ⟨w.heap.size, 2, none⟩ = some (.slice g.ra g.rs.length g.rc) ∧ W.cell? ⟨w.heap.size, 3, none⟩ = some (.slice g.ua g.us.length g.uc))
      (((try go_split_ands); (first | exact kp_all (by with_reducible assumption) | exact kp_all (kp_drew (by with_reducible assumption)) | exact kp_all (kp_alloc (by with_reducible assumption) _) | exact kp_all (kp_call (by with_reducible assumption) (by with_reducible assumption)) | exact kp_all (kp_alloc (kp_call (by with_reducible assumption) (by with_reducible assumption)) _) | exact kp_all (kp_set4 (by with_reducible assumption) (kp_size (by with_reducible assumption)) _ _ _ _) | exact kp_all (kp_set4 (kp_call (by with_reducible assumption) (by with_reducible assumption)) (kp_size (by with_reducible assumption)) _ _ _ _) | exact kp_all (kp_set4 (by with_reducible assumption) (kp_size (kp_call (by with_reducible assumption) (by with_reducible assumption))) _ _ _ _))))
      (first
        | (go_at_call 33; go_split_ands; refine (clone_gp _ _ _ _ (HI.out.gs.below (Nat.le_refl _) (kp_old (by with_reducible assumption))) HZ.out.gs).mono ?_; rintro e w1 ⟨v1, rfl, hown1, hb1⟩; obtain ⟨a1, c1, rfl⟩ := own_slice hown1; (first | (have hf : Fresh w1 W0.heap.size := fresh_call hb1 ⟨heap_new W0 _⟩; obtain ⟨q0, q1, q2, q3, r0, r1, r2, r3⟩ := fresh_cells hf) | skip))
        | (go_at_call 34; go_split_ands; refine (clone_ev _ _ _ _ (HI.out.es.below (Nat.le_refl _) (kp_old (by with_reducible assumption))) HZ.out.es).mono ?_; rintro e w2 ⟨v2, rfl, hown2, hb2⟩; obtain ⟨a2, c2, rfl⟩ := own_slice hown2; (first | (have hf := fresh_call hb2 (by with_reducible assumption); obtain ⟨q0, q1, q2, q3, r0, r1, r2, r3⟩ := fresh_cells hf) | (have hf := fresh_call hb2 (fresh_new _); obtain ⟨q0, q1, q2, q3, r0, r1, r2, r3⟩ := fresh_cells hf) | skip))
        | (go_at_call 35; go_split_ands; refine (clone_rl _ _ _ _ (HI.out.rs.below (Nat.le_refl _) (kp_old (by with_reducible assumption))) HZ.out.rs).mono ?_; rintro e w3 ⟨v3, rfl, hown3, hb3⟩; obtain ⟨a3, c3, rfl⟩ := own_slice hown3; (first | (have hf := fresh_call hb3 (by with_reducible assumption); obtain ⟨q0, q1, q2, q3, r0, r1, r2, r3⟩ := fresh_cells hf) | (have hf := fresh_call hb3 (fresh_new _); obtain ⟨q0, q1, q2, q3, r0, r1, r2, r3⟩ := fresh_cells hf) | skip))
        | (go_at_call 36; go_split_ands; refine (clone_us _ _ _ _ (HI.out.us.below (Nat.le_refl _) (kp_old (by with_reducible assumption))) HZ.out.us).mono ?_; rintro e w4 ⟨v4, rfl, hown4, hb4⟩; obtain ⟨a4, c4, rfl⟩ := own_slice hown4; (first | (have hf := fresh_call hb4 (by with_reducible assumption); obtain ⟨q0, q1, q2, q3, r0, r1, r2, r3⟩ := fresh_cells hf) | (have hf := fresh_call hb4 (fresh_new _); obtain ⟨q0, q1, q2, q3, r0, r1, r2, r3⟩ := fresh_cells hf) | skip)))
    all_goals
      have u12 : Below w1.heap.size w1 w2 := by first | exact hb2 | exact later_alloc hb2
      have u23 : Below w2.heap.size w2 w3 := by first | exact hb3 | exact later_alloc hb3
      have u34 : Below w3.heap.size w3 w4 := by first | exact hb4 | exact later_alloc hb4
      have r1 := Lib.hid (own_base (own_below (own_below (own_below hown1 u12) u23) u34) (kp_size (by with_reducible assumption)))
      have r2 := Lib.hid (own_base (own_below (own_below hown2 u23) u34) (kp_size (by with_reducible assumption)))
      have r3 := Lib.hid (own_base (own_below hown3 u34) (kp_size (by with_reducible assumption)))
      have r4 := Lib.hid (own_base hown4 (kp_size (by with_reducible assumption)))
      have hk4 := Lib.hid (kp_call hb4 (by with_reducible assumption))
      clear hown1 hown2 hown3 hown4
      go_wp2_with fail
      go_meet
      first
        | exact fin_alloc hk4.out r1.out r2.out r3.out r4.out
        | exact fin_set hk4.out hf (kp_size hK) r1.out r2.out r3.out r4.out
        | exact fin_set hk4.out hf (kp_size (kp_call hb3 (by with_reducible assumption))) r1.out r2.out r3.out r4.out
        | exact fin_set hk4.out hf (kp_size (kp_call hb2 (by with_reducible assumption))) r1.out r2.out r3.out r4.out
        | exact fin_set hk4.out hf (kp_size (kp_call hb1 (by with_reducible assumption))) r1.out r2.out r3.out r4.out
  case rest =>
    obtain ⟨b, ⟨cgs, ces, crs, cus, ga, gc, ea, ec, ra, rc, ua, uc⟩, rfl, e1, e2, e3, e4, hb, hbl, o1, o2, o3, o4, hk⟩ := hcut
    simp only at e1 e2 e3 e4 hb o1 o2 o3 o4
    subst e1; subst e2; subst e3; subst e4
    have hG : Hid (ClG g wc (w.heap.size + 2) b ga ea ra ua gc ec rc uc) := Lib.hid ⟨hb, o1, o2, o3⟩
    have hU : Hid (ClU g wc (w.heap.size + 2) 0 g.us ua uc) := Lib.hid ⟨rfl, fun _ _ => rfl, fun _ _ => rfl, fun j hj => absurd hj (Nat.not_lt_zero _), o4⟩
    have hK := Lib.hid hk
    have b3 : wc.cell? ⟨b, 3, none⟩ = some (.slice ua g.us.length uc) := cell_blk hb rfl
    have z4 := HZ.out.us
    clear o1 o2 o3 o4 hk hb
    go_wp2_with fail
    clear b3
    go_loopw [22] (fun i wr => ClRel g w b ga ea ra ua gc ec rc uc i wr) (fun i _ => g.us.length - (intOf i).toNat)
    case atStart => exact ⟨0, g.us, Nat.zero_le _, rfl, hU, hG, hK⟩
    case round =>
      clear hU hG hK
      obtain ⟨k, ls, hk, rfl, hU, hG, hK⟩ := hrel
      by_cases hlt : k < g.us.length
      · obtain ⟨gb, cur, rfl, hgb, hgc, hcap⟩ := own_some hU.out.us (by omega)
        have hcell : ∀ j u, (usC g.us[k]!)[j]? = some u → wr.cell? ⟨gb, k * 3 + j, none⟩ = some u := fun j u hj => by
          have hj3 : j < 3 := (List.getElem?_eq_some_iff.1 hj).1
          rw [hU.out.us.cellAt _ (by omega), flat_at usC 3 (fun _ => rfl) ls k (by rw [hU.out.len]; exact hlt) j hj3, hU.out.rest k (Nat.le_refl _)]
          exact hj
        have k0 := hcell 0 _ rfl
        rw [Nat.add_zero] at k0
        have k1 := hcell 1 _ rfl
        have k2 := hcell 2 _ rfl
        have hlu := hU.out.us.lt gb rfl
        have hb3 := cell_blk (i := 3) hG.out.box rfl
        have hbl3 := World.block_lt_of_cell? _ _ hb3
        have hne : b ≠ gb := by rintro rfl; have h1 := hG.out.box; rw [hgc] at h1; simp at h1
        have h4 : Hid (At2 gb (wr.alloc (.cells #[.string g.us[k]!.name, .slice g.us[k]!.ra g.us[k]!.roles.length g.us[k]!.rc, .string g.us[k]!.sub] 45)) ⟨b, 3, none⟩ ⟨wr.heap.size, 1, none⟩ (.slice (some ⟨gb, 0, none⟩) g.us.length uc) (.slice g.us[k]!.ra g.us[k]!.roles.length g.us[k]!.rc)) :=
          Lib.hid ⟨⟨(World.cell?_alloc_lt _ _ ⟨b, 3, none⟩ hbl3).trans hb3, hne⟩, cell_blk (heap_new _ _) rfl, by show wr.heap.size ≠ gb; omega⟩
        have hst : Hid ((wr.alloc (.cells #[.string g.us[k]!.name, .slice g.us[k]!.ra g.us[k]!.roles.length g.us[k]!.rc, .string g.us[k]!.sub] 45)).heap[gb]? = some (.cells cur 45 (0, 0)) ∧ (wr.alloc (.cells #[.string g.us[k]!.name, .slice g.us[k]!.ra g.us[k]!.roles.length g.us[k]!.rc, .string g.us[k]!.sub] 45)).cell? ⟨gb, k * 3 + 1, none⟩ = some (.slice g.us[k]!.ra g.us[k]!.roles.length g.us[k]!.rc)) :=
          Lib.hid ⟨(Below.heap_alloc _ _ _ hlu.2).trans hgc, (World.cell?_alloc_lt _ _ ⟨gb, k * 3 + 1, none⟩ hlu.2).trans k1⟩
        have hR := r5_begin gb (wr.alloc (.cells #[.string g.us[k]!.name, .slice g.us[k]!.ra g.us[k]!.roles.length g.us[k]!.rc, .string g.us[k]!.sub] 45))
        have hRw : Hid (∀ W, W.heap = (wr.alloc (.cells #[.string g.us[k]!.name, .slice g.us[k]!.ra g.us[k]!.roles.length g.us[k]!.rc, .string g.us[k]!.sub] 45)).heap → Row W g.us[k]!.ra (g.us[k]!.roles.flatMap stC)) := Lib.hid (fun W h => by
          have hr := HI.out.roles _ (mem_at hlt)
          have e : g.us[k]!.roles.flatMap stC = g.us[k]!.roles.map Value.string := by
            rw [List.map_eq_flatMap]; rfl
          rw [e]
          have hr2 := hr.below (Nat.le_refl _) ((kp_old hK.out).alloc (kp_old hK.out).size (.cells #[.string g.us[k]!.name, .slice g.us[k]!.ra g.us[k]!.roles.length g.us[k]!.rc, .string g.us[k]!.sub] 45))
          intro hn
          obtain ⟨b', off', h1, h2, h3⟩ := hr2 hn
          exact ⟨b', off', h1, by rw [h]; exact h2, fun j u hj => (World.cell?_of_block (by rw [h])).trans (h3 j u hj)⟩)
        obtain ⟨_, _, hrl, _⟩ := HZ.out.ur _ (mem_at hlt)
        have hk0 : (0 : Int) ≤ (k : Int) := Int.natCast_nonneg _
        have hk1 : (k : Int) < (g.us.length : Int) := by omega
        have HGC := Lib.hid hgc
        have HGB := Lib.hid hgb
        have HLU := Lib.hid hlu
        clear hcell hb3 hgc hgb hlu hcap
        obtain ⟨x, hx⟩ : ∃ x, x = g.us[k]! := ⟨_, rfl⟩
        rw [← hx] at k0 k1 k2 h4 hst hR hRw hrl
        have HX := Lib.hid hx
        clear hx
        go_wp2_with fail
        clear k0 k1 k2
        obtain ⟨W5, hW5⟩ : ∃ W5, W5 = wr.alloc (.cells #[.string x.name, .slice x.ra x.roles.length x.rc, .string x.sub] 45) := ⟨_, rfl⟩
        rw [← hW5]
        rw [← hW5] at h4 hst hR hRw
        have HW5 := Lib.hid hW5
        clear hW5
        go_region_held3 (fun W => R5 gb W5 W ∧ W.cell? ⟨b, 3, none⟩ = some (.slice (some ⟨gb, 0, none⟩) g.us.length uc) ∧ W.cell? ⟨wr.heap.size, 1, none⟩ = some (.slice x.ra x.roles.length x.rc))
          (((try go_split_ands); (first | exact r5_all h4 (by with_reducible assumption) | exact r5_all h4 (r5_drew (by with_reducible assumption)) | exact r5_all h4 (r5_call (by with_reducible assumption) (by with_reducible assumption)) | exact r5_all h4 (r5_set (by with_reducible assumption) _))))
          (first
            | (go_at_call 37; go_split_ands; refine (clone_st _ _ _ W5.drew (hRw.out W5.drew rfl) hrl).mono ?_; rintro e w1 ⟨v1, rfl, hown1, hb1⟩; obtain ⟨a1, c1, rfl⟩ := own_slice hown1; have hgc1 := (hb1.block gb (Array.getElem?_eq_some_iff.1 hst.out.1).1).trans hst.out.1; have hcl1 := (hb1.cell (p := ⟨gb, k * 3 + 1, none⟩) (Array.getElem?_eq_some_iff.1 hst.out.1).1).trans hst.out.2; have hfr1 := frozen_blk (i := k * 3 + 1) hgc1; have HGC1 := Lib.hid hgc1; clear hgc1))
        have hb5 : Below W5.heap.size W5 w1 := ⟨hb1.os, hb1.tape, hb1.output, hb1.size, hb1.block⟩
        have hs5 : W5.heap.size = wr.heap.size + 1 := by rw [HW5.out]; simp
        rw [HW5.out] at hb5
        have hub := later_alloc hb5
        have K1 := kp_call hub hK.out
        have e9 : x.roles.flatMap stC = x.roles.map Value.string := by rw [List.map_eq_flatMap]; rfl
        rw [e9] at hown1
        have ho := own_base hown1 (B' := w.heap.size + 2) (by have := kp_size hK.out; show _ ≤ W5.heap.size; omega)
        rw [HX.out] at ho
        have U2 := Lib.hid ((hU.out.below hub).step hlt rfl HGC1.out ho)
        have G2 := Lib.hid ((hG.out.below hub).store (i := k * 3 + 1) HGC1.out (.slice a1 g.us[k]!.roles.length c1))
        have K2 := Lib.hid (kp_set (i := k * 3 + 1) K1 HGB.out (.slice a1 g.us[k]!.roles.length c1))
        rw [← HX.out] at U2 G2 K2
        clear hb1 hown1 hcl1 hfr1 HGC1 hb5 hs5 hub K1 e9 ho h4 hst hR hRw
        go_wp2_with fail
        go_roundw
        case rel => exact ⟨k + 1, _, hlt, by go_num, U2, G2, K2⟩
        case measure => simp [intOf]; omega
      · obtain rfl : k = g.us.length := by omega
        have hbx := hG.out.box
        have b0 := cell_blk (i := 0) hbx rfl
        have b1 := cell_blk (i := 1) hbx rfl
        have b2 := cell_blk (i := 2) hbx rfl
        have b3 := cell_blk (i := 3) hbx rfl
        have hrb : wr.heap[w.heap.size + 1]? = some (.cells #[.slice none 0 0, .slice none 0 0, .slice none 0 0, .slice none 0 0] 27 (0, 0)) := (hK.out.b.block _ (by omega)).trans (by rw [box2, ← box_size w g]; exact heap_new _ _)
        have r0 := cell_blk (i := 0) hrb rfl
        have r1 := cell_blk (i := 1) hrb rfl
        have r2 := cell_blk (i := 2) hrb rfl
        have r3 := cell_blk (i := 3) hrb rfl
        have f0 := frozen_blk (i := 0) hrb
        have f1 := frozen_blk (i := 1) hrb
        have f2 := frozen_blk (i := 2) hrb
        have f3 := frozen_blk (i := 3) hrb
        have HRB := Lib.hid hrb
        clear hbx hrb
        go_wp2_with fail
        have hfin := clone_fin hU.out hG.out hK.out HRB.out (.slice ga g.gs.length gc) (.slice ea g.es.length ec) (.slice ra g.rs.length rc) (.slice ua g.us.length uc)
        have h6 : (set4 wr (w.heap.size + 1) (.slice ga g.gs.length gc) (.slice ea g.es.length ec) (.slice ra g.rs.length rc) (.slice ua g.us.length uc)).heap[w.heap.size + 1]? = some (.cells #[.slice ga g.gs.length gc, .slice ea g.es.length ec, .slice ra g.rs.length rc, .slice ua g.us.length uc] 27 (0, 0)) := blk_set (blk_set (blk_set (blk_set HRB.out)))
        change bodyPost _ _ _ _ _ (set4 wr (w.heap.size + 1) (.slice ga g.gs.length gc) (.slice ea g.es.length ec) (.slice ra g.rs.length rc) (.slice ua g.us.length uc))
        have HF := Lib.hid hfin
        clear hfin b0 b1 b2 b3 r0 r1 r2 r3 f0 f1 f2 f3
        generalize set4 wr (w.heap.size + 1) (.slice ga g.gs.length gc) (.slice ea g.es.length ec) (.slice ra g.rs.length rc) (.slice ua g.us.length uc) = W6 at *
        have c0 := cell_blk (i := 0) h6 rfl
        have c1 := cell_blk (i := 1) h6 rfl
        have c2 := cell_blk (i := 2) h6 rfl
        have c3 := cell_blk (i := 3) h6 rfl
        clear h6
        exact bodyPost_ret (v := .agg #[.slice ga g.gs.length gc, .slice ea g.es.length ec, .slice ra g.rs.length rc, .slice ua g.us.length uc]) (by simp [results, Tryz.results16, go_sem, c0, c1, c2, c3]) rfl HF.out
end Go.Proofs.YtandfjahfbeaiaaGreat
