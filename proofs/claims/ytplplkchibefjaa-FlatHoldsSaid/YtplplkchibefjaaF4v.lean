/-
  The two maps of FlatHolds in memory.
-/
import Derived.Test.YtplplkchibefjaaF4u
import Derived.Test.YtplplkchibefjaaF4a
import Derived.Maps.RangeWalk
namespace Go.Proofs.Ytplplkchibefjaa.P4
open Go.RowKit Go.Shelf

theorem below_map {Wb W W' : World} (o : Below Wb.heap.size Wb W) (h : W.grownBy W' (some Wb.heap.size)) : Below Wb.heap.size Wb W' :=
  o.grown h o.size (fun k e => by cases e; exact Nat.le_refl _)
theorem own_ne_map {W : World} {B e z n b m : Nat} {v zv : Value} {xs : List Value} {k : TypeId} {f : Lit → Option Value} (h : W.ownsRow B e z v n xs) (hm : MapV W Try.prog k zv b m f) : v.ownBlock ≠ some b := by
  obtain ⟨D, ⟨es, clock, hh, _⟩, _⟩ := hm
  rcases h.2 with ⟨hv, _⟩ | ⟨g, cap, cur, hv, _, hg, _⟩
  · rw [hv]; simp [Value.ownBlock]
  · subst hv
    intro e1
    have e2 : g = b := by simpa [Value.ownBlock] using e1
    subst e2
    rw [hh] at hg; cases hg
/-- The first k ties' times, as a map. -/
structure HA (Wb : World) (ts : List Ti) (k : Nat) (W : World) : Prop where
  o : Below Wb.heap.size Wb W
  m : ∃ c, c ≤ k ∧ MapV W Try.prog 49 (.int .i64 0) Wb.heap.size c (fT (ts.take k))
theorem HA.start (Wb : World) (ts : List Ti) : HA Wb ts 0 (Wb.alloc (.map #[] 0)) := ⟨(Below.refl _ _).alloc (Nat.le_refl _) _, 0, Nat.le_refl _, MapV.made _ _ _ _⟩
theorem HA.lt {Wb W : World} {ts : List Ti} {k : Nat} (h : HA Wb ts k W) : Wb.heap.size < W.heap.size := by obtain ⟨c, _, hm⟩ := h.m; exact hm.lt
theorem HA.alloc {Wb W : World} {ts : List Ti} {k : Nat} (h : HA Wb ts k W) (o : Obj) : HA Wb ts k (W.alloc o) := by
  obtain ⟨c, hc, hm⟩ := h.m
  exact ⟨h.o.alloc h.o.size o, c, hc, hm.below (Nat.le_refl _) ((Below.refl _ _).alloc (Nat.le_refl _) _)⟩
theorem HA.look {Wb W : World} {ts : List Ti} {k : Nat} (h : HA Wb ts k W) {x : Ti} (hx : OkT x) : (Instr.lookup 47 (.map (some Wb.heap.size)) (.agg #[.int .i64 x.kind, .int .i64 x.fr, .int .i64 x.to, .int .i64 0]) true).run Try.prog W = .ok (.tuple #[(fT (ts.take k) (tlit (tkey x))).getD (.int .i64 0), .bool (fT (ts.take k) (tlit (tkey x))).isSome]) W := by
  obtain ⟨c, _, hm⟩ := h.m
  exact hm.look_ok lawT Try.underlying47 (Try.zeroValue3 _) (keyT hx)
theorem HA.next {Wb W : World} {ts : List Ti} {k : Nat} (h : HA Wb ts k W) (hk : k < ts.length) (h8 : ts.length ≤ 8000) (hx : OkT ts[k]!) :
    ∃ w1, (Instr.mapUpdate 47 (.map (some Wb.heap.size)) (.agg #[.int .i64 ts[k]!.kind, .int .i64 ts[k]!.fr, .int .i64 ts[k]!.to, .int .i64 0]) (.int .i64 ts[k]!.time)).run Try.prog W = .ok () w1 ∧ HA Wb ts (k + 1) w1 := by
  obtain ⟨c, hc, hm⟩ := h.m
  obtain ⟨w1, h1, h2, h3⟩ := hm.update lawT Try.underlying47 (by unfold maxLen; omega) (keyT hx) (.int .i64 ts[k]!.time)
  exact ⟨w1, h1, below_map h.o h3, c + 1, by omega, by rw [fT_take hk]; exact h2⟩
/-- Which keys have been told with just their time, as a map. -/
structure HB (Wc : World) (ts pre : List Ti) (W : World) : Prop where
  o : Below Wc.heap.size Wc W
  m : ∃ f c, c ≤ pre.length ∧ MapV W Try.prog 49 (.bool false) Wc.heap.size c f ∧ ∀ x, OkT x → (f (tlit (tkey x))).getD (.bool false) = .bool (doneB ts pre x)
theorem HB.start (Wc : World) (ts : List Ti) : HB Wc ts [] (Wc.alloc (.map #[] 0)) := ⟨(Below.refl _ _).alloc (Nat.le_refl _) _, _, 0, Nat.le_refl _, MapV.made _ _ _ _, fun x _ => by rw [done_nil]; rfl⟩
section
variable {Wc W W' : World} {ts pre : List Ti}
theorem HB.lt (h : HB Wc ts pre W) : Wc.heap.size < W.heap.size := by obtain ⟨f, c, _, hm, _⟩ := h.m; exact hm.lt
theorem HB.call (h : HB Wc ts pre W) (hb : Below W.heap.size W W') : HB Wc ts pre W' := by
  obtain ⟨f, c, hc, hm, hf⟩ := h.m
  exact ⟨h.o.trans (hb.mono h.o.size), f, c, hc, hm.below (Nat.le_refl _) hb, hf⟩
theorem HB.alloc (h : HB Wc ts pre W) (o : Obj) : HB Wc ts pre (W.alloc o) := h.call ((Below.refl _ _).alloc (Nat.le_refl _) _)
theorem HB.look (h : HB Wc ts pre W) {x : Ti} (hx : OkT x) : (Instr.lookup 51 (.map (some Wc.heap.size)) (.agg #[.int .i64 x.kind, .int .i64 x.fr, .int .i64 x.to, .int .i64 0]) false).run Try.prog W = .ok (.bool (doneB ts pre x)) W := by
  obtain ⟨f, c, _, hm, hf⟩ := h.m
  rw [← hf x hx]
  exact hm.look lawT Try.underlying51 (Try.zeroValue4 _) (keyT hx)
theorem HB.next (h : HB Wc ts pre W) (h8 : pre.length ≤ 100000) (hn : (ts.map tkey).Nodup) {y t : Ti} (hy : OkT y) (ht : t ∈ ts) (hk : tkey t = tkey y) :
    ∃ w1, (Instr.mapUpdate 51 (.map (some Wc.heap.size)) (.agg #[.int .i64 y.kind, .int .i64 y.fr, .int .i64 y.to, .int .i64 0]) (.bool (doneB ts pre y || decide (y.time = t.time)))).run Try.prog W = .ok () w1 ∧ HB Wc ts (pre ++ [y]) w1 ∧ W.grownBy w1 (some Wc.heap.size) := by
  obtain ⟨f, c, hc, hm, hf⟩ := h.m
  obtain ⟨w1, h1, h2, h3⟩ := hm.update lawT Try.underlying51 (by unfold maxLen; omega) (keyT hy) (.bool (doneB ts pre y || decide (y.time = t.time)))
  refine ⟨w1, h1, ⟨below_map h.o h3, _, c + 1, by rw [List.length_append, List.length_singleton]; omega, h2, fun x hx => ?_⟩, h3⟩
  rw [done_snoc hn ht hk x]
  by_cases e : tkey x = tkey y
  · have e1 : doneB ts pre x = doneB ts pre y := by unfold doneB; rw [e]
    simp only [e, if_true, Option.getD_some, e1]
  · have e1 : ¬ tlit (tkey x) = tlit (tkey y) := fun h => e (tlit_inj hx hy h)
    simp only [e, e1, if_false]
    exact hf x hx
end
/-- What stands while the relations are gone through: told's map, a relation's box, the places of its source; and of its target. -/
structure HD (w Wc : World) (ts pre : List Ti) (R : Nat) (x : Rl) (va : Value) (A : List Nat) (W : World) : Prop where
  h : HB Wc ts pre W
  x : W.heap[R]? = some (.cells #[.int .i64 x.kind, .string x.src, .string x.dst, .int .i64 x.time] 53 (0, 0))
  p : W.ownsRow w.heap.size 3 1 va A.length (intC A)
section
variable {w Wc W W' : World} {ts pre pre' : List Ti} {R : Nat} {x : Rl} {va : Value} {A : List Nat}
theorem HD.call (h : HD w Wc ts pre R x va A W) (hb : Below W.heap.size W W') : HD w Wc ts pre R x va A W' := ⟨h.h.call hb, blk_call h.x hb, own_below h.p hb⟩
theorem HD.alloc (h : HD w Wc ts pre R x va A W) (o : Obj) : HD w Wc ts pre R x va A (W.alloc o) := h.call ((Below.refl _ _).alloc (Nat.le_refl _) _)
theorem HD.drew (h : HD w Wc ts pre R x va A W) : HD w Wc ts pre R x va A W.drew := h.call ⟨rfl, rfl, rfl, Nat.le_refl _, fun _ _ => rfl⟩
theorem map_kept {B e z n : Nat} {v : Value} {xs : List Value} (ho : W.ownsRow B e z v n xs) (h : HB Wc ts pre W) (hg : W.grownBy W' (some Wc.heap.size)) : W'.ownsRow B e z v n xs := by
  obtain ⟨f, c, _, hm, _⟩ := h.m
  exact ho.kept hg (.inr (own_ne_map ho hm))
theorem HD.next (h : HD w Wc ts pre R x va A W) (h' : HB Wc ts pre' W') (hg : W.grownBy W' (some Wc.heap.size)) : HD w Wc ts pre' R x va A W' := by
  refine ⟨h', ?_, map_kept h.p h.h hg⟩
  refine (hg.block R (Array.getElem?_eq_some_iff.1 h.x).1 (fun e => ?_)).trans h.x
  obtain ⟨f, c, _, ⟨D, ⟨es, clock, hh, _⟩, _⟩, _⟩ := h.h.m
  have e1 : R = Wc.heap.size := by injection e
  have hx := h.x
  rw [e1, hh] at hx; cases hx
theorem HD.cells (h : HD w Wc ts pre R x va A W) : W.cell? ⟨R, 0, none⟩ = some (.int .i64 x.kind) ∧ W.cell? ⟨R, 1, none⟩ = some (.string x.src) ∧ W.cell? ⟨R, 2, none⟩ = some (.string x.dst) ∧ W.cell? ⟨R, 3, none⟩ = some (.int .i64 x.time) ∧ R < W.heap.size :=
  ⟨cell_blk h.x rfl, cell_blk h.x rfl, cell_blk h.x rfl, cell_blk h.x rfl, (Array.getElem?_eq_some_iff.1 h.x).1⟩
theorem place_at {n c gq : Nat} {L : List Nat} {i : Nat} (h : W.ownsRow w.heap.size 3 1 (.slice (some ⟨gq, 0, none⟩) n c) n (intC L)) (hL : L.length = n) (hi : i < n) : W.cell? ⟨gq, i, none⟩ = some (.int .i64 (L[i]! : Nat)) := by
  refine (h.cellAt i (by omega)).trans ?_
  unfold intC
  rw [List.getElem?_map, List.getElem?_eq_getElem (by omega), getElem!_pos L i (by omega)]; rfl
end
/-- The times' map, in a later world. -/
theorem times_look {Wc W : World} {ts : List Ti} {B1 c : Nat} (hm : MapV Wc Try.prog 49 (.int .i64 0) B1 c (fT ts)) (ho : Below Wc.heap.size Wc W) {x t : Ti} (hx : OkT x) (hok : ∀ u ∈ ts, OkT u) (hn : (ts.map tkey).Nodup) (ht : t ∈ ts) (hk : tkey t = tkey x) :
    (Instr.lookup 47 (.map (some B1)) (.agg #[.int .i64 x.kind, .int .i64 x.fr, .int .i64 x.to, .int .i64 0]) true).run Try.prog W = .ok (.tuple #[.int .i64 t.time, .bool true]) W := by
  have h1 := (hm.block (ho.block B1 hm.lt)).look_ok lawT Try.underlying47 (Try.zeroValue3 _) (keyT hx)
  rw [fT_hit hx ts hok hn ht hk] at h1
  exact h1
theorem HB.turn {Wc W W' : World} {ts pre : List Ti} {r : Nat} (h : HB Wc ts pre W) (hg : W.grownBy W' (some r)) (hr : Wc.heap.size < r) : HB Wc ts pre W' := by
  obtain ⟨f, c, hc, hm, hf⟩ := h.m
  exact ⟨h.o.grown hg h.o.size (fun k e => by cases e; omega), f, c, hc, hm.block (hg.block _ hm.lt (fun e => by injection e with e; omega)), hf⟩
/-- The times are gone through: the two maps stand. -/
structure HZw (Wc : World) (ts xs : List Ti) (D : DataW Value) (r B1 n : Nat) (left : Lit → Bool) (cnt : Nat) (W : World) : Prop where
  rg : W.ranges Try.prog 49 Rv B1 r n D left cnt
  le : ∀ kl, left kl = true → Maps.has D kl = true
  h : HB Wc ts xs W
  r : Wc.heap.size < r
section
variable {Wc W W' : World} {ts xs : List Ti} {D : DataW Value} {r B1 n cnt cnt' : Nat} {left : Lit → Bool}
theorem HZw.start (h : HB Wc ts xs W) (hg : W.grownBy W' none) (hrg : W'.ranges Try.prog 49 Rv B1 W.heap.size n D (Maps.has D) cnt) : HZw Wc ts xs D W.heap.size B1 n (Maps.has D) cnt W' :=
  ⟨hrg, fun _ h => h, h.call ((Below.refl _ _).grown hg (Nat.le_refl _) (fun k e => by cases e)), h.lt⟩
theorem HZw.next (h : HZw Wc ts xs D r B1 n left cnt W) {kl : Lit} (hrg : W'.ranges Try.prog 49 Rv B1 r n D (fun z => left z && !z.sameKey kl) cnt') (hg : W.grownBy W' (some r)) : HZw Wc ts xs D r B1 n (fun z => left z && !z.sameKey kl) cnt' W' :=
  ⟨hrg, fun z hz => h.le z (by rw [Bool.and_eq_true] at hz; exact hz.1), h.h.turn hg h.r, h.r⟩
theorem HZw.alloc (h : HZw Wc ts xs D r B1 n left cnt W) (o : Obj) : HZw Wc ts xs D r B1 n left cnt (W.alloc o) := ⟨h.rg.alloc o, h.le, h.h.alloc o, h.r⟩
theorem HZw.key (h : HZw Wc ts xs D r B1 n left cnt W) (hf : ∀ l, WideAt.IsKeyLit l → Maps.has D l = (fT ts l).isSome ∧ D.atKey l (.held (.int .i64 0)) = .held ((fT ts l).getD (.int .i64 0))) (hok : ∀ t ∈ ts, OkT t) {x : Value} {kl : Lit} (hk : keyOf Try.prog 49 x = some kl) (hl : left kl = true) : ∃ t ∈ ts, x = .agg #[.int .i64 t.kind, .int .i64 t.fr, .int .i64 t.to, .int .i64 0] := by
  have h1 := h.le kl hl
  rw [(hf kl (lawT.key hk)).1] at h1
  obtain ⟨t, ht, rfl⟩ := fT_some ts h1
  exact ⟨t, ht, lawT.inj hk (keyT (hok t ht))⟩
end
end Go.Proofs.Ytplplkchibefjaa.P4
