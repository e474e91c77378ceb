/-
  Contracts of the three doings of heads.
-/
import Derived.Test.YtaagpnepkjkfoaaRiE
namespace Go.Proofs.Ytaagpnepkjkfoaa.R6
open Go.RowKit Go.Shelf Go.Proofs.Ytaagpnepkjkfoaa.B

instance : Inhabited TJ := ⟨⟨[], [], [], []⟩⟩
/-- How the heads' memory lies: three rows with their boxes, a box for what is open. -/
structure UH (N g : Nat) (s : TJ) (W : World) (vo : Value) : Prop where
  hl : s.h.length = N
  ml : s.m.length = N
  ll : s.l.length = N
  hb : W.heap[g + 1]? = some (.cells #[rowAt g N] 26 (0, 0))
  mb : W.heap[g + 3]? = some (.cells #[rowAt (g + 2) N] 26 (0, 0))
  lb : W.heap[g + 5]? = some (.cells #[rowAt (g + 4) N] 26 (0, 0))
  ob : W.heap[g + 6]? = some (.cells #[vo] 26 (0, 0))
  hr : W.ownsRow g 3 1 (rowAt g N) N (s.h.map (Value.int .i64))
  mr : W.ownsRow g 3 1 (rowAt (g + 2) N) N (s.m.map iv)
  lr : W.ownsRow g 3 1 (rowAt (g + 4) N) N (s.l.map iv)
  or_ : W.ownsRow (g + 7) 3 1 vo s.o.length (s.o.map iv)
def FH (g : Nat) (vo : Value) (k : Nat) : Prop := (g ≤ k ∧ k < g + 7) ∨ vo.ownBlock = some k
def UHx (N g : Nat) (s : TJ) (W : World) (F : Nat → Prop) : Prop := ∃ vo, UH N g s W vo ∧ F = FH g vo
theorem UH.keep {N g : Nat} {s : TJ} {W W' : World} {vo : Value} (h : UH N g s W vo) (hk : ∀ k, FH g vo k → W'.heap[k]? = W.heap[k]?) : UH N g s W' vo := by
  have hk' : ∀ k, g ≤ k → k < g + 7 → W'.heap[k]? = W.heap[k]? := fun k h1 h2 => hk k (.inl ⟨h1, h2⟩)
  refine ⟨h.hl, h.ml, h.ll, (hk' _ (by omega) (by omega)).trans h.hb, (hk' _ (by omega) (by omega)).trans h.mb, (hk' _ (by omega) (by omega)).trans h.lb, (hk' _ (by omega) (by omega)).trans h.ob, own_keep h.hr (fun k hg => ?_), own_keep h.mr (fun k hg => ?_), own_keep h.lr (fun k hg => ?_), own_keep h.or_ (fun k hg => hk k (.inr hg))⟩
  all_goals simp only [Value.ownBlock, Option.some.injEq] at hg
  all_goals exact hk' _ (by omega) (by omega)
theorem UH.lt {N g : Nat} {s : TJ} {W : World} {vo : Value} (h : UH N g s W vo) : g + 6 < W.heap.size := blk_lt h.ob
theorem UH.below {N g : Nat} {s : TJ} {W W' : World} {vo : Value} (h : UH N g s W vo) (hb : Below W.heap.size W W') : UH N g s W' vo := h.keep (fun k hk => hb.block k (by
  have := h.lt
  rcases hk with hk | hk
  · omega
  · exact (own_block h.or_ hk).2))
theorem UH.flt {N g : Nat} {s : TJ} {W : World} {vo : Value} (h : UH N g s W vo) {k : Nat} (hk : FH g vo k) : k < W.heap.size := by
  have := h.lt
  rcases hk with hk | hk
  · omega
  · exact (own_block h.or_ hk).2
/-- One of the rows is stored into. -/
theorem UH.other {N g : Nat} {s s' : TJ} {W W' : World} {vo : Value} (h : UH N g s W vo) (b : Nat) (hb : b = g ∨ b = g + 2 ∨ b = g + 4) (he : Ext (fun k => k = b) W W') (hl : s'.h.length = N) (ml : s'.m.length = N) (ll : s'.l.length = N) (ho : s'.o = s.o)
    (hr : W'.ownsRow g 3 1 (rowAt g N) N (s'.h.map (Value.int .i64))) (mr : W'.ownsRow g 3 1 (rowAt (g + 2) N) N (s'.m.map iv)) (lr : W'.ownsRow g 3 1 (rowAt (g + 4) N) N (s'.l.map iv)) : UH N g s' W' vo := by
  have hlt := h.lt
  refine ⟨hl, ml, ll, (he.block _ (by omega) (by omega)).trans h.hb, (he.block _ (by omega) (by omega)).trans h.mb, (he.block _ (by omega) (by omega)).trans h.lb, (he.block _ (by omega) (by omega)).trans h.ob, hr, mr, lr, ?_⟩
  rw [ho]
  exact own_keep h.or_ (fun k hk => he.block k (own_block h.or_ hk).2 (fun e => by have := (own_block h.or_ hk).1; omega))
theorem UH.setH {N g : Nat} {s : TJ} {W : World} {vo : Value} (h : UH N g s W vo) (a : Nat) (i : Int) : UH N g { s with h := s.h.set a i } (W.setCell ⟨g, a, none⟩ (.int .i64 i)) vo := by
  have he : Ext (fun k => k = g) W (W.setCell ⟨g, a, none⟩ (.int .i64 i)) := Ext.set (F := fun k => k = g) W _ rfl
  have hst := (h.hr.stored a (.int .i64 i)).1
  rw [set_map] at hst
  exact h.other g (.inl rfl) he (by simp [h.hl]) h.ml h.ll rfl hst
    (own_keep h.mr (fun k hk => he.block k (own_block h.mr hk).2 (fun e => by simp only [Value.ownBlock, Option.some.injEq] at hk; omega)))
    (own_keep h.lr (fun k hk => he.block k (own_block h.lr hk).2 (fun e => by simp only [Value.ownBlock, Option.some.injEq] at hk; omega)))
theorem UH.setM {N g : Nat} {s : TJ} {W : World} {vo : Value} (h : UH N g s W vo) (a i : Nat) : UH N g { s with m := s.m.set a i } (W.setCell ⟨g + 2, a, none⟩ (iv i)) vo := by
  have he : Ext (fun k => k = g + 2) W (W.setCell ⟨g + 2, a, none⟩ (iv i)) := Ext.set (F := fun k => k = g + 2) W _ rfl
  have hst := (h.mr.stored a (iv i)).1
  rw [set_map iv] at hst
  exact h.other (g + 2) (.inr (.inl rfl)) he h.hl (by simp [h.ml]) h.ll rfl
    (own_keep h.hr (fun k hk => he.block k (own_block h.hr hk).2 (fun e => by simp only [Value.ownBlock, Option.some.injEq] at hk; omega))) hst
    (own_keep h.lr (fun k hk => he.block k (own_block h.lr hk).2 (fun e => by simp only [Value.ownBlock, Option.some.injEq] at hk; omega)))
theorem UH.setL {N g : Nat} {s : TJ} {W : World} {vo : Value} (h : UH N g s W vo) (a i : Nat) : UH N g { s with l := s.l.set a i } (W.setCell ⟨g + 4, a, none⟩ (iv i)) vo := by
  have he : Ext (fun k => k = g + 4) W (W.setCell ⟨g + 4, a, none⟩ (iv i)) := Ext.set (F := fun k => k = g + 4) W _ rfl
  have hst := (h.lr.stored a (iv i)).1
  rw [set_map iv] at hst
  exact h.other (g + 4) (.inr (.inr rfl)) he h.hl h.ml (by simp [h.ll]) rfl
    (own_keep h.hr (fun k hk => he.block k (own_block h.hr hk).2 (fun e => by simp only [Value.ownBlock, Option.some.injEq] at hk; omega)))
    (own_keep h.mr (fun k hk => he.block k (own_block h.mr hk).2 (fun e => by simp only [Value.ownBlock, Option.some.injEq] at hk; omega))) hst
/-- What is open lies elsewhere, and is stored into its box. -/
theorem UH.setO {N g : Nat} {s : TJ} {W W1 : World} {vo v' : Value} {o' : List Nat} (h : UH N g s W vo) (ho : W1.ownsRow (g + 7) 3 1 v' o'.length (o'.map iv)) (hg : W.grownBy W1 vo.ownBlock) :
    UH N g { s with o := o' } (W1.setCell ⟨g + 6, 0, none⟩ v') v' ∧ Ext (FH g vo) W (W1.setCell ⟨g + 6, 0, none⟩ v') ∧ W1.heap[g + 6]? = some (.cells #[vo] 26 (0, 0)) := by
  have hlt := h.lt
  have he : Ext (FH g vo) W W1 := ⟨hg.os, hg.tape, hg.output, hg.size, fun k hk hn => hg.block k hk (fun e => hn (.inr e.symm))⟩
  have he2 : Ext (FH g vo) W (W1.setCell ⟨g + 6, 0, none⟩ v') := he.trans (Ext.set (F := fun k => k = g + 6) W1 v' rfl) (fun i hi => .inl (.inl ⟨by omega, by omega⟩))
  have hk : ∀ k, g ≤ k → k < g + 6 → (W1.setCell ⟨g + 6, 0, none⟩ v').heap[k]? = W.heap[k]? := fun k h1 h2 => (blk_other (by omega)).trans (hg.block k (by omega) (fun e => by have := (own_block h.or_ e.symm).1; omega))
  have hpb : W1.heap[g + 6]? = some (.cells #[vo] 26 (0, 0)) := (hg.block _ (by omega) (fun e => by have := (own_block h.or_ e.symm).1; omega)).trans h.ob
  refine ⟨⟨h.hl, h.ml, h.ll, (hk _ (by omega) (by omega)).trans h.hb, (hk _ (by omega) (by omega)).trans h.mb, (hk _ (by omega) (by omega)).trans h.lb, ?_, own_keep h.hr (fun k hg => ?_), own_keep h.mr (fun k hg => ?_), own_keep h.lr (fun k hg => ?_), own_keep ho (fun k hg => blk_other ?_)⟩, he2, hpb⟩
  · rw [blk_set hpb]; rfl
  · simp only [Value.ownBlock, Option.some.injEq] at hg; exact hk _ (by omega) (by omega)
  · simp only [Value.ownBlock, Option.some.injEq] at hg; exact hk _ (by omega) (by omega)
  · simp only [Value.ownBlock, Option.some.injEq] at hg; exact hk _ (by omega) (by omega)
  · have := (own_block ho hg).1; omega

set_option maxRecDepth 100000 in
set_option maxHeartbeats 2000000 in
theorem come_any (W : World) (N g a : Nat) (s : TJ) (vo : Value) (h : UH N g s W vo) (ha : a < N) (hO : s.o.length ≤ 100000) :
    Calls Try.prog 74 #[iv a, pt (g + 1), pt (g + 6), pt (g + 3), pt (g + 5)] W fun e W' => (∃ v, e = .returned v) ∧ ∃ v', UH N g (comeT a s) W' v' ∧ Ext (FH g vo) W W' ∧ ∀ k, FH g v' k → FH g vo k ∨ W.heap.size ≤ k := by
  obtain ⟨i0, hi0, hi1, hi2, hi3⟩ := info_parts info_int'
  have hz := h.lt
  obtain ⟨va, vc, rfl⟩ := own_slice h.or_
  have z1 : g + 1 < W.heap.size := by omega
  have z2 : g + 2 < W.heap.size := by omega
  have z3 : g + 3 < W.heap.size := by omega
  have z4 : g + 4 < W.heap.size := by omega
  have z5 : g + 5 < W.heap.size := by omega
  have z0 : g < W.heap.size := by omega
  have cH : W.cell? ⟨g + 1, 0, none⟩ = some (rowAt g N) := cell_blk (i := 0) h.hb rfl
  have cM : W.cell? ⟨g + 3, 0, none⟩ = some (rowAt (g + 2) N) := cell_blk (i := 0) h.mb rfl
  have cL : W.cell? ⟨g + 5, 0, none⟩ = some (rowAt (g + 4) N) := cell_blk (i := 0) h.lb rfl
  have cO : W.cell? ⟨g + 6, 0, none⟩ = some (.slice va s.o.length vc) := cell_blk (i := 0) h.ob rfl
  have fO : W.frozen? ⟨g + 6, 0, none⟩ = false := frozen_blk (i := 0) h.ob
  have hk0 : (0 : Int) ≤ (a : Int) := Int.natCast_nonneg _
  have hk1 : (a : Int) < (N : Int) := by omega
  have eh := (h.hr.cellAt a (by omega)).trans (map_get _ (by rw [h.hl]; exact ha))
  have em := (h.mr.cellAt a (by omega)).trans (map_get _ (by rw [h.ml]; exact ha))
  have el := (h.lr.cellAt a (by omega)).trans (map_get _ (by rw [h.ll]; exact ha))
  have fh := h.hr.frozenAt a
  have fm := h.mr.frozenAt a
  have fl := h.lr.frozenAt a
  have H1 := Lib.hid (((h.setH a (-1)).setM a s.o.length).setL a s.o.length)
  have HH := Lib.hid h
  generalize s.h[a]! = th at *
  generalize s.m[a]! = tm at *
  generalize s.l[a]! = tl at *
  clear h
  go_enter Try.func74, Try.ntmps74
  go_wp2_with fail
  go_region
  go_wp2_with (at_builtin; refine wpList_append_own_at _ rfl (.tmp 19) (.tmp 21) 26 rfl (g + 7) 3 i0 _ 1 8 Try.underlying26 hi0 hi1 hi2 hi3 rfl (by omega) _ _ _ rfl (H1.out.or_.drew.alloc _) ⟨W.heap.size, 0, none⟩ 1 1 [iv a] rfl rfl ?c1 ?c2 ?c3 ?c4 ?c5 ?_)
  case c1 =>
    intro j v hj
    have hn := heap_new (((W.setCell ⟨g, a, none⟩ (.int .i64 (-1))).setCell ⟨g + 2, a, none⟩ (iv s.o.length)).setCell ⟨g + 4, a, none⟩ (iv s.o.length)) (.cells #[iv a] 3)
    rw [World.size_setCell, World.size_setCell, World.size_setCell] at hn
    match j, hj with
    | 0, hj => cases hj; exact cell_blk (w := World.drew _) hn rfl
  case c2 => intro v hv; simp at hv; rw [hv]; rfl
  case c3 => unfold maxLen; omega
  case c4 => omega
  case c5 => simp only [World.size_drew, World.size_alloc, World.size_setCell]; omega
  intro v' w4 hown' hgrow _ hat
  obtain ⟨va', vc', rfl⟩ := own_slice hown'
  have hb1 : Below (((W.setCell ⟨g, a, none⟩ (.int .i64 (-1))).setCell ⟨g + 2, a, none⟩ (iv s.o.length)).setCell ⟨g + 4, a, none⟩ (iv s.o.length)).heap.size (((W.setCell ⟨g, a, none⟩ (.int .i64 (-1))).setCell ⟨g + 2, a, none⟩ (iv s.o.length)).setCell ⟨g + 4, a, none⟩ (iv s.o.length)) _ := below_draws ((Below.refl _ _).alloc (Nat.le_refl _) (.cells #[iv a] 3)) 1
  have h2 := H1.out.below hb1
  have hl' : (s.o ++ [a]).length = s.o.length + 1 := by simp
  obtain ⟨h3, e3, b4⟩ := h2.setO (o' := s.o ++ [a]) (by rw [hl', List.map_append]; exact hown') hgrow
  have f4 := frozen_blk (i := 0) b4
  have p4 : w4.cell? ⟨g + 6, 0, none⟩ = some (.slice va s.o.length vc) := cell_blk (i := 0) b4 rfl
  have e1 : Ext (FH g (.slice va s.o.length vc)) W (((W.setCell ⟨g, a, none⟩ (.int .i64 (-1))).setCell ⟨g + 2, a, none⟩ (iv s.o.length)).setCell ⟨g + 4, a, none⟩ (iv s.o.length)) :=
    ((Ext.set (F := FH g (.slice va s.o.length vc)) W (p := ⟨g, a, none⟩) _ (.inl (show g ≤ g ∧ g < g + 7 by omega))).trans (Ext.set (F := FH g (.slice va s.o.length vc)) _ (p := ⟨g + 2, a, none⟩) _ (.inl (show g ≤ g + 2 ∧ g + 2 < g + 7 by omega))) (fun _ h => .inl h)).trans (Ext.set (F := FH g (.slice va s.o.length vc)) _ (p := ⟨g + 4, a, none⟩) _ (.inl (show g ≤ g + 4 ∧ g + 4 < g + 7 by omega))) (fun _ h => .inl h)
  have e4 := (e1.trans (Ext.of_below (F := FH g (.slice va s.o.length vc)) hb1) (fun _ h => .inl h)).trans e3 (fun _ h => .inl h)
  have hF : ∀ k, FH g (.slice va' (s.o.length + 1) vc') k → FH g (.slice va s.o.length vc) k ∨ W.heap.size ≤ k := fun k hk => by
    rcases hk with hk | hk
    · exact .inl (.inl hk)
    · rcases hat with h' | h'
      · exact .inl (.inr (h'.symm.trans hk))
      · rw [hk] at h'; injection h' with h'; exact .inr (by omega)
  have H3 := Lib.hid h3
  have E4 := Lib.hid e4
  clear hown' hgrow b4 h3 e3 e4 e1 h2 hb1 H1 hat HH
  go_wp2_with fail
  go_end0
  exact ⟨⟨_, rfl⟩, _, H3.out, E4.out, hF⟩

set_option maxRecDepth 100000 in
set_option maxHeartbeats 2000000 in
theorem way_any (W : World) (N g a b : Nat) (s : TJ) (vo : Value) (h : UH N g s W vo) (ha : a < N) (hb : b < N) :
    Calls Try.prog 75 #[iv a, iv b, pt (g + 1), pt (g + 5)] W fun e W' => (∃ v, e = .returned v) ∧ UH N g (wayT a b s) W' vo ∧ Ext (FH g vo) W W' := by
  have hz := h.lt
  have z1 : g + 1 < W.heap.size := by omega
  have z4 : g + 4 < W.heap.size := by omega
  have z5 : g + 5 < W.heap.size := by omega
  have z0 : g < W.heap.size := by omega
  have cH : W.cell? ⟨g + 1, 0, none⟩ = some (rowAt g N) := cell_blk (i := 0) h.hb rfl
  have cL : W.cell? ⟨g + 5, 0, none⟩ = some (rowAt (g + 4) N) := cell_blk (i := 0) h.lb rfl
  have hk0 : (0 : Int) ≤ (a : Int) := Int.natCast_nonneg _
  have hk1 : (a : Int) < (N : Int) := by omega
  have hk2 : (0 : Int) ≤ (b : Int) := Int.natCast_nonneg _
  have hk3 : (b : Int) < (N : Int) := by omega
  have eh := (h.hr.cellAt b (by omega)).trans (map_get _ (by rw [h.hl]; exact hb))
  have el := (h.lr.cellAt a (by omega)).trans (map_get _ (by rw [h.ll]; exact ha))
  have el2 := (h.lr.cellAt b (by omega)).trans (map_get _ (by rw [h.ll]; exact hb))
  have fl := h.lr.frozenAt a
  have HH := Lib.hid h
  by_cases hn : s.h[b]! < 0
  · have HW : Hid (wayT a b s = { s with l := s.l.set a (min s.l[a]! s.l[b]!) }) := Lib.hid (by unfold wayT; rw [if_pos hn])
    have H1 := Lib.hid (h.setL a (min s.l[a]! s.l[b]!))
    generalize s.h[b]! = th at *
    generalize s.l[a]! = tl at *
    generalize s.l[b]! = tb at *
    clear h
    go_enter Try.func75, Try.ntmps75
    go_wp2_with fail
    go_region
    have hif : (if tb < tl then (tb : Int) else (tl : Int)) = ((min tl tb : Nat) : Int) := by split <;> omega
    rw [hif]
    go_end0
    exact ⟨⟨_, rfl⟩, by rw [HW.out]; exact H1.out.below (below_draws (Below.refl _ _) 1), (Ext.set (F := FH g vo) W (p := ⟨g + 4, a, none⟩) _ (.inl (show g ≤ g + 4 ∧ g + 4 < g + 7 by omega))).trans (Ext.of_below (F := FH g vo) (below_draws (Below.refl _ _) 1)) (fun _ h => .inl h)⟩
  · have HW : Hid (wayT a b s = s) := Lib.hid (by unfold wayT; rw [if_neg hn])
    generalize s.h[b]! = th at *
    generalize s.l[a]! = tl at *
    generalize s.l[b]! = tb at *
    clear h
    go_enter Try.func75, Try.ntmps75
    go_wp2_with fail
    go_end0
    exact ⟨⟨_, rfl⟩, by rw [HW.out]; exact HH.out, Ext.refl _ _⟩

/-- The heads of the first k of some. -/
theorem headsT_next (a : Nat) (ps : List Nat) (h : List Int) (k : Nat) (hk : k < ps.length) : headsT a (ps.take (k + 1)) h = (headsT a (ps.take k) h).set ps[k]! (a : Int) := by
  unfold headsT; rw [take_next hk, List.foldl_append]; rfl
set_option maxRecDepth 100000 in
set_option maxHeartbeats 4000000 in
theorem leave_any (W : World) (N g a : Nat) (s : TJ) (vo : Value) (h : UH N g s W vo) (ha : a < N) (hO : s.o.length ≤ 100000) (hm : s.m[a]! < s.o.length) (hlt : ∀ p ∈ s.o, p < N) :
    Calls Try.prog 76 #[iv a, pt (g + 3), pt (g + 5), pt (g + 6), pt (g + 1)] W fun e W' => (∃ v, e = .returned v) ∧ ∃ v', UH N g (leaveT a s) W' v' ∧ Ext (FH g vo) W W' ∧ ∀ k, FH g v' k → FH g vo k ∨ W.heap.size ≤ k := by
  have hz := h.lt
  obtain ⟨va, vc, rfl⟩ := own_slice h.or_
  have z1 : g + 1 < W.heap.size := by omega
  have z2 : g + 2 < W.heap.size := by omega
  have z3 : g + 3 < W.heap.size := by omega
  have z4 : g + 4 < W.heap.size := by omega
  have z5 : g + 5 < W.heap.size := by omega
  have z0 : g < W.heap.size := by omega
  have cH : W.cell? ⟨g + 1, 0, none⟩ = some (rowAt g N) := cell_blk (i := 0) h.hb rfl
  have cM : W.cell? ⟨g + 3, 0, none⟩ = some (rowAt (g + 2) N) := cell_blk (i := 0) h.mb rfl
  have cL : W.cell? ⟨g + 5, 0, none⟩ = some (rowAt (g + 4) N) := cell_blk (i := 0) h.lb rfl
  have cO : W.cell? ⟨g + 6, 0, none⟩ = some (.slice va s.o.length vc) := cell_blk (i := 0) h.ob rfl
  have hk0 : (0 : Int) ≤ (a : Int) := Int.natCast_nonneg _
  have hk1 : (a : Int) < (N : Int) := by omega
  have em := (h.mr.cellAt a (by omega)).trans (map_get _ (by rw [h.ml]; exact ha))
  have el := (h.lr.cellAt a (by omega)).trans (map_get _ (by rw [h.ll]; exact ha))
  have HH := Lib.hid h
  have HL : Hid (leaveT a s = if s.l[a]! < s.m[a]! then s else { s with h := headsT a (s.o.drop s.m[a]!) s.h, o := s.o.take s.m[a]! }) := Lib.hid rfl
  by_cases hc : s.l[a]! < s.m[a]!
  · rw [if_pos hc] at HL
    generalize s.m[a]! = tm at *
    generalize s.l[a]! = tl at *
    clear h
    go_enter Try.func76, Try.ntmps76
    go_wp2_with fail
    refine bodyPost_ret (results_none rfl _ _ _) rfl ?_
    exact ⟨⟨_, rfl⟩, _, by rw [HL.out]; exact HH.out, Ext.refl _ _, fun k hk => .inl hk⟩
  · rw [if_neg hc] at HL
    generalize s.m[a]! = tm at *
    generalize s.l[a]! = tl at *
    have hcap := (own_cap h.or_).1
    obtain ⟨go, gc, hgo, hgo1, hgo2⟩ := own_head h.or_ (by omega)
    injection hgo with e1 e2 e3
    subst e1 e3
    have hnc : ¬ vc - tm = 0 := by omega
    have hll := h.hl
    have HOR := Lib.hid h.or_
    have HLT := Lib.hid hlt
    clear h hlt
    go_enter Try.func76, Try.ntmps76
    go_wp2_with fail
    clear cO
    go_loopw [23] (fun j wr => ∃ k : Nat, k ≤ s.o.length - tm ∧ j = .int .i64 k ∧ Hid (UH N g { s with h := headsT a ((s.o.drop tm).take k) s.h } wr (.slice (some ⟨go, 0, none⟩) s.o.length vc)) ∧ Hid (Ext (FH g (.slice (some ⟨go, 0, none⟩) s.o.length vc)) W wr)) (fun j _ => s.o.length - tm - (intOf j).toNat)
    case atStart => exact ⟨0, Nat.zero_le _, rfl, by rw [List.take_zero]; exact HH, Lib.hid (Ext.refl _ _)⟩
    case round =>
      obtain ⟨k, hk, rfl, HU, HE⟩ := hrel
      have hz' := HE.out.size
      by_cases hlt : k < s.o.length - tm
      · have hpl : tm + k < s.o.length := by omega
        have hdk : (s.o.drop tm)[k]! = s.o[tm + k]! := by
          rw [getElem!_pos _ k (by rw [List.length_drop]; omega), getElem!_pos _ (tm + k) hpl, List.getElem_drop]
        have hpm := HLT.out _ (Go.Proofs.Ytaagpnepkjkfoaa.B.mem_at hpl)
        have HN := Lib.hid (headsT_next a (s.o.drop tm) s.h k (by rw [List.length_drop]; exact hlt))
        rw [hdk] at HN
        have cp := (HU.out.or_.cellAt (tm + k) (by show tm + k < s.o.length * 1; omega)).trans (map_get iv hpl)
        have ch : wr.cell? ⟨g + 1, 0, none⟩ = some (rowAt g N) := cell_blk (i := 0) HU.out.hb rfl
        generalize s.o[tm + k]! = p at *
        have hp0 : (0 : Int) ≤ (p : Int) := Int.natCast_nonneg _
        have hp1 : (p : Int) < (N : Int) := by omega
        have eh := (HU.out.hr.cellAt p (by omega)).trans (map_get _ (by rw [HU.out.hl]; exact hpm))
        have fh := HU.out.hr.frozenAt p
        have hu2 := HU.out.setH p (a : Int)
        have HU2 := Lib.hid hu2
        rw [← HN.out] at HU2
        have HE2 := Lib.hid (HE.out.trans (Ext.set (F := FH g (.slice (some ⟨go, 0, none⟩) s.o.length vc)) wr (p := ⟨g, p, none⟩) (.int .i64 (a : Int)) (.inl (show g ≤ g ∧ g < g + 7 by omega))) (fun _ h => .inl h))
        generalize (headsT a ((s.o.drop tm).take k) s.h)[p]! = th at *
        have hgw : go < wr.heap.size := by omega
        have hk0' : (0 : Int) ≤ (k : Int) := Int.natCast_nonneg _
        clear hu2 hdk
        go_wp2_with fail
        go_roundw
        case rel => exact ⟨k + 1, hlt, by go_num, HU2, HE2⟩
        case measure => simp [intOf]; omega
      · have hkk : k = s.o.length - tm := by omega
        have ht : (s.o.drop tm).take k = s.o.drop tm := List.take_of_length_le (by rw [List.length_drop]; omega)
        rw [ht] at HU
        have hor := own_take (m := tm) HU.out.or_ (by show tm ≤ s.o.length; omega)
        have hlen : (s.o.take tm).length = tm := by rw [List.length_take]; omega
        rw [← List.map_take] at hor
        have hso := HU.out.setO (o' := s.o.take tm) (W1 := wr) (v' := .slice (some ⟨go, 0, none⟩) tm vc) (by rw [hlen]; exact hor) (World.grownBy.refl _ _)
        obtain ⟨h3, e3, b4⟩ := hso
        have f4 := frozen_blk (i := 0) b4
        have p4 : wr.cell? ⟨g + 6, 0, none⟩ = some (.slice (some ⟨go, 0, none⟩) s.o.length vc) := cell_blk (i := 0) b4 rfl
        have H3 := Lib.hid h3
        have E3 := Lib.hid (HE.out.trans e3 (fun _ h => .inl h))
        clear h3 e3 b4 hor
        go_wp2_with fail
        go_end0
        exact ⟨⟨_, rfl⟩, .slice (some ⟨go, 0, none⟩) tm vc, by rw [HL.out]; exact H3.out, E3.out, fun k hk => .inl hk⟩
end Go.Proofs.Ytaagpnepkjkfoaa.R6
