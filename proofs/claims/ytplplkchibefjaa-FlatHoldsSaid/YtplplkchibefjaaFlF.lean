/-
  What flat.Make gathers: as a function on lists, and what its rounds do to memory.
-/
import Derived.Test.YtplplkchibefjaaFlE
import Derived.Test.YtplplkchibefjaaGrCl
import Derived.Laws.OwnMore
import Derived.Maps.AppendAt
import Derived.OneCell
namespace Go.Proofs.Ytplplkchibefjaa
open Go.RowKit Go.Shelf

/-- A tie made stricter by another one. -/
def strT (a t : Ti) : Ti := ⟨a.kind, a.fr, a.to, strI t.kind a.time t.time⟩
def hasT_ (l : List Ti) (t : Ti) : Bool := (l.map tkey).contains (tkey t)
def atT (l : List Ti) (t : Ti) : Nat := (l.map tkey).idxOf (tkey t)
def stepT (l : List Ti) (t : Ti) : Option (List Ti) :=
  if hasT_ l t then some (l.set (atT l t) (strT l[atT l t]! t)) else if l.length = 8000 then none else some (l ++ [t])
def foldT : List Ti → List Ti → Option (List Ti)
  | l, [] => some l
  | l, t :: r => (stepT l t).bind fun l' => foldT l' r
theorem foldT_app : ∀ (xs ys l : List Ti), foldT l (xs ++ ys) = (foldT l xs).bind fun l' => foldT l' ys
  | [], ys, l => rfl
  | x :: r, ys, l => by
    rw [List.cons_append, foldT, foldT]
    cases stepT l x with
    | none => rfl
    | some l' => exact foldT_app r ys l'
theorem foldT_snoc (pre : List Ti) (x : Ti) (l : List Ti) : foldT l (pre ++ [x]) = (foldT l pre).bind fun l' => stepT l' x := by
  rw [foldT_app]
  congr 1
  funext l'
  rw [foldT]
  cases stepT l' x <;> rfl
theorem foldT_pre {pre xs l : List Ti} (h : pre <+: xs) (h0 : foldT l pre = none) : foldT l xs = none := by
  obtain ⟨r, rfl⟩ := h
  rw [foldT_app, h0]; rfl
theorem atT_lt {l : List Ti} {t : Ti} (h : hasT_ l t = true) : atT l t < l.length := by
  have h1 : (l.map tkey).length = l.length := List.length_map _
  rw [← h1]; exact List.idxOf_lt_length_iff.2 (List.contains_iff_mem.1 h)
theorem atT_key {l : List Ti} {t : Ti} (h : hasT_ l t = true) : tkey l[atT l t]! = tkey t := by
  have hl := atT_lt h
  have h1 : (l.map tkey).length = l.length := List.length_map _
  have h2 := List.getElem_idxOf (show (l.map tkey).idxOf (tkey t) < (l.map tkey).length by rw [h1]; exact hl)
  rw [List.getElem_map] at h2
  rw [getElem!_pos l (atT l t) hl]; exact h2
theorem tlit_inj {a b : Ti} (ha : OkT a) (hb : OkT b) (h : tlit (tkey a) = tlit (tkey b)) : tkey a = tkey b := by
  have e1 := keyT ha
  rw [h] at e1
  have e2 := lawT.inj e1 (keyT hb)
  simp only [Value.agg.injEq, Array.mk.injEq, List.cons.injEq, Value.int.injEq, true_and, and_true] at e2
  unfold tkey
  rw [e2.1, e2.2.1, e2.2.2]
theorem first_t {l : List Ti} (hl : ∀ x ∈ l, OkT x) {t : Ti} (ht : OkT t) : firstOf (l.map fun p => tlit (tkey p)) (tlit (tkey t)) = if hasT_ l t then some (atT l t) else none := by
  have h := firstOf_map tlit (tkey t) (l.map tkey) (fun x hx e => by
    obtain ⟨y, hy, rfl⟩ := List.mem_map.1 hx
    exact tlit_inj (hl y hy) ht e)
  rw [List.map_map] at h
  exact h
theorem firstOf_snoc {ls : List Lit} {k : Lit} (h : firstOf ls k = none) : firstOf (ls ++ [k]) = fun l => if l = k then some ls.length else firstOf ls l := by
  funext l
  unfold firstOf at h ⊢
  rw [List.findIdx?_append]
  by_cases e : l = k
  · subst e
    rw [h]; simp
  · rw [if_neg e]
    have h1 : List.findIdx? (fun x => decide (x = l)) [k] = none := by simp [Ne.symm e]
    rw [h1]; simp

/-! ### memory -/
theorem flat_set' {α : Type} (enc : α → List Value) (k : Nat) (hk : ∀ x, (enc x).length = k) : ∀ (l : List α) (i : Nat) (_ : i < l.length) (j : Nat) (_ : j < k) (v : Value) (y : α) (_ : ∀ x, l[i]? = some x → enc y = (enc x).set j v), (l.flatMap enc).set (i * k + j) v = (l.set i y).flatMap enc
  | [], i, h, _, _, _, _, _ => by simp at h
  | x :: r, 0, _, j, hj, v, y, hy => by
    rw [List.flatMap_cons, List.set_cons_zero, List.flatMap_cons, Nat.zero_mul, Nat.zero_add, List.set_append_left _ _ (by rw [hk]; exact hj), hy x rfl]
  | x :: r, i + 1, h, j, hj, v, y, hy => by
    have e : (i + 1) * k = i * k + k := Nat.succ_mul i k
    rw [List.flatMap_cons, List.set_cons_succ, List.flatMap_cons, List.set_append_right _ _ (by rw [hk]; omega), hk, show (i + 1) * k + j - k = i * k + j from by omega, flat_set' enc k hk r i (by simpa using h) j hj v y (fun z hz => hy z (by simpa using hz))]
/-- What stands as it did while Make gathers. -/
structure MC (w : World) (g : Gr) (B1 : Nat) (W : World) : Prop where
  b : Below w.heap.size w W
  z : B1 + 5 ≤ W.heap.size
  p : W.heap[B1 + 1 + 1 + 1]? = some (.cells #[.map (some (B1 + 1 + 1))] 47 (0, 0))
  gb : W.heap[w.heap.size]? = some (.cells #[.slice g.ga g.gs.length g.gc, .slice g.ea g.es.length g.ec, .slice g.ra g.rs.length g.rc, .slice g.ua g.us.length g.uc] 27 (0, 0))
  r1 : W.heap[w.heap.size + 1]? = some (.cells #[.slice none 0 0, .slice none 0 0] 32 (0, 0))
  r2 : W.heap[w.heap.size + 1 + 1]? = some (.cells #[.int .i64 0] 33 (0, 0))
theorem MC.below {w : World} {g : Gr} {B1 : Nat} {W W' : World} (h : MC w g B1 W) (hb : Below W.heap.size W W') (hw : w.heap.size + 3 ≤ B1) : MC w g B1 W' := by
  have hz := h.z
  exact ⟨h.b.trans (hb.mono h.b.size), Nat.le_trans h.z hb.size, (hb.block _ (by omega)).trans h.p, (hb.block _ (by omega)).trans h.gb, (hb.block _ (by omega)).trans h.r1, (hb.block _ (by omega)).trans h.r2⟩
theorem MC.grown {w : World} {g : Gr} {B1 r : Nat} {W W' : World} (h : MC w g B1 W) (hg : W.grownBy W' (some r)) (hw : w.heap.size + 3 ≤ B1) (hr : r = B1 + 1 ∨ r = B1 + 1 + 1 ∨ B1 + 5 ≤ r) : MC w g B1 W' := by
  have hz := h.z
  have hk : ∀ k, k < B1 + 5 → k ≠ B1 + 1 → k ≠ B1 + 1 + 1 → W'.heap[k]? = W.heap[k]? := fun k h1 h2 h3 => hg.block k (by omega) (fun e => absurd (Option.some.inj e) (by omega))
  refine ⟨h.b.grown hg (by omega) (fun k e => ?_), Nat.le_trans h.z hg.size, (hk _ (by omega) (by omega) (by omega)).trans h.p, (hk _ (by omega) (by omega) (by omega)).trans h.gb, (hk _ (by omega) (by omega) (by omega)).trans h.r1, (hk _ (by omega) (by omega) (by omega)).trans h.r2⟩
  have e' : r = k := by injection e
  omega
/-- .. and what it has gathered. -/
structure MM (w : World) (g : Gr) (B1 : Nat) (l : List Ti) (W : World) : Prop where
  c : MC w g B1 W
  n : l.length ≤ 8000
  ok : ∀ t ∈ l, OkT t
  m : MapFn W Try.prog 49 3 (B1 + 1 + 1) l.length (firstOf (l.map fun t => tlit (tkey t)))
  v : ∃ v, W.heap[B1 + 1]? = some (.cells #[v] 30 (0, 0)) ∧ W.ownsRow (B1 + 5) 49 4 v l.length (l.flatMap tiC)
theorem MM.below {w : World} {g : Gr} {B1 : Nat} {l : List Ti} {W W' : World} (h : MM w g B1 l W) (hb : Below W.heap.size W W') (hw : w.heap.size + 3 ≤ B1) : MM w g B1 l W' := by
  have hz := h.c.z
  obtain ⟨v, h1, h2⟩ := h.v
  exact ⟨h.c.below hb hw, h.n, h.ok, h.m.below (Nat.le_refl _) hb, v, (hb.block _ (by omega)).trans h1, own_below h2 hb⟩
theorem MM.rowOk {w : World} {g : Gr} {B1 : Nat} {l : List Ti} {W : World} (h : MM w g B1 l W) : RowOk (B1 + 1) (B1 + 1 + 1) W := by
  have hz := h.c.z
  obtain ⟨v, h1, h2⟩ := h.v
  refine ⟨by omega, by omega, fun k hk => ?_⟩
  unfold rowB at hk
  rw [show W.cell? ⟨B1 + 1, 0, none⟩ = some v from cell_blk h1 rfl] at hk
  rcases h2.2 with ⟨rfl, _⟩ | ⟨g, cap, cur, rfl, _, hg, _⟩
  · cases hk
  · simp only [Value.ownBlock, Option.some.injEq] at hk
    subst hk
    exact ⟨_, hg, rfl⟩
theorem MM.own {w : World} {g : Gr} {B1 : Nat} {l : List Ti} {W W' : World} {row : Option Nat} (h : MM w g B1 l W) (hw : w.heap.size + 3 ≤ B1) (hg : W.grownBy W' row) (hr : ∀ r, row = some r → B1 + 5 ≤ r ∧ ∃ o : Obj, W.heap[r]? = some o ∧ o.isCells = false) : MM w g B1 l W' := by
  have hz := h.c.z
  obtain ⟨v, h1, h2⟩ := h.v
  have hk : ∀ k, k < B1 + 5 → W'.heap[k]? = W.heap[k]? := fun k hk => hg.block k (by omega) (fun e => by have := (hr k e.symm).1; omega)
  have hmc : MC w g B1 W' := by
    cases row with
    | none => exact h.c.below ⟨hg.os, hg.tape, hg.output, hg.size, fun k hk => hg.block k hk (by simp)⟩ hw
    | some r => exact h.c.grown hg hw (.inr (.inr (hr r rfl).1))
  refine ⟨hmc, h.n, h.ok, h.m.block (hk _ (by omega)), v, (hk _ (by omega)).trans h1, h2.kept hg ?_⟩
  rcases h2.2 with ⟨rfl, _⟩ | ⟨g, cap, cur, rfl, _, hgg, _⟩
  · exact .inl rfl
  · right
    intro e
    obtain ⟨_, o, ho, hc⟩ := hr g (by rw [← e]; rfl)
    rw [hgg] at ho; cases ho; cases hc
theorem ownMM {w : World} {g : Gr} {B1 : Nat} (hw : w.heap.size + 3 ≤ B1) (f : List Ti → Option (List Ti)) : OwnFrom (B1 + 5) (fun pre W => ∃ l, f pre = some l ∧ MM w g B1 l W) := fun s A B row hs hg hr => by
  obtain ⟨l, h1, h2⟩ := hs
  exact ⟨l, h1, h2.own hw hg hr⟩
/-- A step that turns the list's box, the map, the list's row alone. -/
theorem kq_step {Bl Bm n : Nat} {V V' : World} (hs : V.heap.size ≤ V'.heap.size) (hk : ∀ k, k < V.heap.size → k ≠ Bl → k ≠ Bm → rowB Bl V ≠ some k → V'.heap[k]? = V.heap[k]?) (hr : ∀ r, rowB Bl V' = some r → rowB Bl V = some r ∨ V.heap.size ≤ r) (ho : RowOk Bl Bm V') : Kq Bl Bm n V V' :=
  ⟨hs, fun k _ hp => by
    have e := hk k hp.lt hp.l hp.m hp.r
    refine ⟨e, hp.l, hp.m, fun h => ?_, by rw [e]; exact hp.o⟩
    rcases hr k h with h1 | h1
    · exact hp.r h1
    · have := hp.lt; omega, fun _ => ho⟩
theorem rowB_of {Bl : Nat} {V : World} {v : Value} {T : TypeId} (h : V.heap[Bl]? = some (.cells #[v] T (0, 0))) : rowB Bl V = v.ownBlock := by
  unfold rowB; rw [show V.cell? ⟨Bl, 0, none⟩ = some v from cell_blk h rfl]
theorem map_set_same {l : List Ti} {i : Nat} {y : Ti} (hi : i < l.length) (hy : tkey y = tkey l[i]!) : ((l.set i y).map fun t => tlit (tkey t)) = l.map fun t => tlit (tkey t) := by
  rw [List.map_set, hy, getElem!_pos l i hi]
  exact List.ext_getElem (by simp) (fun j h1 h2 => by
    rw [List.getElem_set]
    by_cases e : i = j
    · subst e; simp
    · rw [if_neg e])
/-- The time of one that is there is turned. -/
theorem MM.turn {w : World} {g : Gr} {B1 gb c : Nat} {l : List Ti} {t : Ti} {W : World} (h : MM w g B1 l W) (hw : w.heap.size + 3 ≤ B1) (hh : hasT_ l t = true) (hv : W.heap[B1 + 1]? = some (.cells #[.slice (some ⟨gb, 0, none⟩) l.length c] 30 (0, 0))) :
    MM w g B1 (l.set (atT l t) (strT l[atT l t]! t)) (W.setCell ⟨gb, atT l t * 4 + 3, none⟩ (.int .i64 (strI t.kind l[atT l t]!.time t.time))) ∧ Kq (B1 + 1) (B1 + 1 + 1) W.heap.size W (W.setCell ⟨gb, atT l t * 4 + 3, none⟩ (.int .i64 (strI t.kind l[atT l t]!.time t.time))) ∧ KeepsOthers W (W.setCell ⟨gb, atT l t * 4 + 3, none⟩ (.int .i64 (strI t.kind l[atT l t]!.time t.time))) := by
  have hz := h.c.z
  obtain ⟨v, h1, h2⟩ := h.v
  rw [hv] at h1
  obtain rfl : v = .slice (some ⟨gb, 0, none⟩) l.length c := by cases h1; rfl
  have hl := atT_lt hh
  have hgb : B1 + 5 ≤ gb := (h2.lt gb rfl).1
  obtain ⟨s1, s2⟩ := h2.stored (atT l t * 4 + 3) (.int .i64 (strI t.kind l[atT l t]!.time t.time))
  rw [flat_set' tiC 4 (fun _ => rfl) l (atT l t) hl 3 (by omega) _ (strT l[atT l t]! t) (fun x hx => by
    have : x = l[atT l t]! := by rw [getElem!_pos l _ hl]; rw [List.getElem?_eq_getElem hl] at hx; exact (Option.some.inj hx).symm
    rw [← this]; rfl)] at s1
  have e1 : (W.setCell ⟨gb, atT l t * 4 + 3, none⟩ (.int .i64 (strI t.kind l[atT l t]!.time t.time))).heap[B1 + 1]? = some (.cells #[.slice (some ⟨gb, 0, none⟩) l.length c] 30 (0, 0)) := (s2.block _ (by omega) (fun e => absurd (Option.some.inj e) (by omega))).trans hv
  have hmm : MM w g B1 (l.set (atT l t) (strT l[atT l t]! t)) (W.setCell ⟨gb, atT l t * 4 + 3, none⟩ (.int .i64 (strI t.kind l[atT l t]!.time t.time))) := by
    refine ⟨h.c.grown s2 hw (.inr (.inr hgb)), by rw [List.length_set]; exact h.n, fun x hx => ?_, ?_, ⟨_, e1, by rw [List.length_set]; exact s1⟩⟩
    · rcases List.mem_or_eq_of_mem_set hx with hx | rfl
      · exact h.ok x hx
      · have := h.ok _ (mem_at hl)
        exact ⟨this.kind, this.fr, this.to⟩
    · rw [List.length_set, show ((l.set (atT l t) (strT l[atT l t]! t)).map fun t => tlit (tkey t)) = l.map fun t => tlit (tkey t) from map_set_same hl rfl]
      exact h.m.block (s2.block _ (by omega) (fun e => absurd (Option.some.inj e) (by omega)))
  refine ⟨hmm, kq_step s2.size (fun k hk _ _ hr => s2.block k hk (fun e => hr (by rw [rowB_of hv]; exact e.symm))) (fun r hr => .inl ?_) hmm.rowOk, KeepsOthers.setCell _ _ _⟩
  rw [rowB_of e1] at hr; rw [rowB_of hv]; exact hr
/-- A new one comes behind the others. -/
theorem MM.add {w : World} {g : Gr} {B1 : Nat} {l : List Ti} {t : Ti} {W W5 W6 : World} {v v' : Value} {o : Obj} (h : MM w g B1 l W) (hw : w.heap.size + 3 ≤ B1) (ht : OkT t) (hh : hasT_ l t = false) (hn : l.length < 8000) (hv : W.heap[B1 + 1]? = some (.cells #[v] 30 (0, 0)))
    (hm5 : MapFn W5 Try.prog 49 3 (B1 + 1 + 1) (l.length + 1) (fun x => if x = tlit (tkey t) then some l.length else firstOf (l.map fun t => tlit (tkey t)) x)) (hg5 : W.grownBy W5 (some (B1 + 1 + 1)))
    (ho6 : W6.ownsRow (B1 + 5) 49 4 v' (l.length + 1) (l.flatMap tiC ++ tiC t)) (hg6 : (W5.alloc o).grownBy W6 v.ownBlock) (hat : v'.ownBlock = v.ownBlock ∨ v'.ownBlock = some (W5.alloc o).heap.size) :
    MM w g B1 (l ++ [t]) (W6.setCell ⟨B1 + 1, 0, none⟩ v') ∧ Kq (B1 + 1) (B1 + 1 + 1) W.heap.size W (W6.setCell ⟨B1 + 1, 0, none⟩ v') ∧ KeepsFrom (B1 + 5) W (W6.setCell ⟨B1 + 1, 0, none⟩ v') := by
  have hz := h.c.z
  obtain ⟨v0, h1, h2⟩ := h.v
  rw [hv] at h1
  obtain rfl : v0 = v := by cases h1; rfl
  have hz5 := hg5.size
  have hz6 := hg6.size
  rw [World.size_alloc] at hz6 hat
  have hrow : ∀ r, v0.ownBlock = some r → B1 + 5 ≤ r ∧ ∃ cs, W.heap[r]? = some (.cells cs 49 (0, 0)) := fun r hr => by
    rcases h2.2 with ⟨rfl, _⟩ | ⟨g, cap, cur, rfl, hb, hg, _⟩
    · cases hr
    · simp only [Value.ownBlock, Option.some.injEq] at hr
      subst hr; exact ⟨hb, _, hg⟩
  have k6 : ∀ k, k < W.heap.size → k ≠ B1 + 1 + 1 → v0.ownBlock ≠ some k → W6.heap[k]? = W.heap[k]? := fun k hk h3 h4 =>
    (hg6.block k (by rw [World.size_alloc]; omega) (fun e => h4 e.symm)).trans ((Below.heap_alloc _ _ _ (by omega)).trans (hg5.block k hk (fun e => h3 (by injection e))))
  have v6 : W6.heap[B1 + 1]? = some (.cells #[v0] 30 (0, 0)) := (k6 _ (by omega) (by omega) (fun e => absurd (hrow _ e).1 (by show ¬ (B1 + 5 ≤ B1 + 1); omega))).trans hv
  have e7 : (W6.setCell ⟨B1 + 1, 0, none⟩ v').heap[B1 + 1]? = some (.cells #[v'] 30 (0, 0)) := blk_set v6
  have k7 : ∀ k, k ≠ B1 + 1 → (W6.setCell ⟨B1 + 1, 0, none⟩ v').heap[k]? = W6.heap[k]? := fun k hk => blk_other hk
  have z7 : (W6.setCell ⟨B1 + 1, 0, none⟩ v').heap.size = W6.heap.size := by simp [World.setCell]
  have kk : ∀ k, k < W.heap.size → k ≠ B1 + 1 → k ≠ B1 + 1 + 1 → v0.ownBlock ≠ some k → (W6.setCell ⟨B1 + 1, 0, none⟩ v').heap[k]? = W.heap[k]? := fun k hk h1 h3 h4 => (k7 k h1).trans (k6 k hk h3 h4)
  have lowk : ∀ k, k < B1 + 5 → k ≠ B1 + 1 → k ≠ B1 + 1 + 1 → (W6.setCell ⟨B1 + 1, 0, none⟩ v').heap[k]? = W.heap[k]? := fun k hk h1 h3 => kk k (by omega) h1 h3 (fun e => by have := (hrow k e).1; omega)
  have hb : Below w.heap.size w (W6.setCell ⟨B1 + 1, 0, none⟩ v') := by
    refine ((((h.c.b.grown hg5 (by omega) (fun k e => ?_)).alloc (by omega) o).grown hg6 (by rw [World.size_alloc]; omega) (fun k e => ?_))).setCell (p := ⟨B1 + 1, 0, none⟩) (by show w.heap.size ≤ B1 + 1; omega) v'
    · have : B1 + 1 + 1 = k := by injection e
      omega
    · have := (hrow k e).1; omega
  have hmm : MM w g B1 (l ++ [t]) (W6.setCell ⟨B1 + 1, 0, none⟩ v') := by
    refine ⟨⟨hb, by rw [z7]; omega, (lowk _ (by omega) (by omega) (by omega)).trans h.c.p, (lowk _ (by omega) (by omega) (by omega)).trans h.c.gb, (lowk _ (by omega) (by omega) (by omega)).trans h.c.r1, (lowk _ (by omega) (by omega) (by omega)).trans h.c.r2⟩, by rw [List.length_append]; simp; omega, fun x hx => ?_, ?_, v', e7, ?_⟩
    · rcases List.mem_append.1 hx with h' | h'
      · exact h.ok x h'
      · rw [List.mem_singleton] at h'; rw [h']; exact ht
    · have hf : firstOf ((l ++ [t]).map fun t => tlit (tkey t)) = fun x => if x = tlit (tkey t) then some l.length else firstOf (l.map fun t => tlit (tkey t)) x := by
        rw [List.map_append]
        have := firstOf_snoc (ls := l.map fun t => tlit (tkey t)) (k := tlit (tkey t)) (by rw [first_t h.ok ht, hh]; rfl)
        rw [List.length_map] at this; exact this
      rw [hf, List.length_append]
      refine hm5.block ((k7 _ (by omega)).trans ((hg6.block _ (by rw [World.size_alloc]; omega) (fun e => ?_)).trans (Below.heap_alloc _ _ _ (by omega))))
      have := (hrow _ e.symm).1; omega
    · rw [List.length_append, List.flatMap_append]
      have e8 : (List.flatMap tiC [t]) = tiC t := by simp
      rw [e8]
      refine ownsRow_setCell_other ho6 (fun e => ?_) v'
      rcases hat with h' | h'
      · rw [h'] at e; have : B1 + 5 ≤ B1 + 1 := (hrow _ e).1
        omega
      · rw [h'] at e; have : W5.heap.size + 1 = B1 + 1 := by injection e
        omega
  refine ⟨hmm, kq_step (by rw [z7]; omega) (fun k hk h1 h3 hr => kk k hk h1 h3 (by rw [rowB_of hv] at hr; exact hr)) (fun r hr => ?_) hmm.rowOk, ⟨by rw [z7]; omega, fun k o' hk ho hc => ?_⟩⟩
  · rw [rowB_of e7] at hr
    rw [rowB_of hv]
    rcases hat with h' | h'
    · left; rw [← h']; exact hr
    · right; rw [h'] at hr; have : W5.heap.size + 1 = r := by injection hr
      omega
  · have hkl := (Array.getElem?_eq_some_iff.1 ho).1
    refine (kk k hkl (by omega) (by omega) (fun e => ?_)).trans ho
    obtain ⟨_, cs, hcs⟩ := hrow k e
    rw [ho] at hcs; cases hcs; cases hc
end Go.Proofs.Ytplplkchibefjaa
