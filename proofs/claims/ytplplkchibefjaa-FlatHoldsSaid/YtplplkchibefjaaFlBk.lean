/-
  Contract of flat.Back, whatever events and ties. Contracts of layer 4's own (ties as the document has them), and of the document's Same of ties.
-/
import Derived.Test.YtplplkchibefjaaFlBa
import Derived.StillTailTactics
import Derived.Deep.RegionHeld3
import Derived.Deep.DeepCutAuto
import Derived.Laws.StructEq
namespace Go.Proofs.Ytplplkchibefjaa.F4
open Go.RowKit Go.Shelf Go.Proofs.Ytplplkchibefjaa.B

def bareE (v : Ev) : Ev := { v with group := ⟨#[]⟩ }
/-- The first k events without their groups, the rest as they were. -/
def bareL (l : List Ev) (k : Nat) : List Ev := (l.take k).map bareE ++ l.drop k
theorem bare_zero (l : List Ev) : bareL l 0 = l := by simp [bareL]
theorem bare_all (l : List Ev) : bareL l l.length = l.map bareE := by simp [bareL]
theorem bare_len {l : List Ev} {k : Nat} (hk : k ≤ l.length) : (bareL l k).length = l.length := by simp [bareL]; omega
theorem bare_at {l : List Ev} {k : Nat} (hk : k < l.length) : (bareL l k)[k]! = l[k]! := by
  rw [getElem!_pos _ k (by rw [bare_len (Nat.le_of_lt hk)]; exact hk), getElem!_pos l k hk]
  unfold bareL
  rw [List.getElem_append_right (by simp; omega)]
  simp [Nat.min_eq_left (Nat.le_of_lt hk)]
theorem bare_next {l : List Ev} {k : Nat} (hk : k < l.length) : bareL l (k + 1) = (bareL l k).set k (bareE l[k]!) := by
  unfold bareL
  rw [map_next hk, List.set_append_right _ _ (by simp; omega)]
  simp only [List.length_map, List.length_take, Nat.min_eq_left (Nat.le_of_lt hk), Nat.sub_self]
  rw [List.drop_eq_getElem_cons hk, List.set_cons_zero, List.append_assoc]
  rfl
def backR (es : List Ev) (t : Ti) : Rl := ⟨t.kind, (es[t.fr.toNat]!).name, (es[t.to.toNat]!).name, t.time⟩
def betw (n : Nat) (t : Ti) : Bool := hasI n t.fr && hasI n t.to
def backL (es : List Ev) (ts : List Ti) : List Rl := (ts.filter (betw es.length)).map (backR es)
theorem ev_set1 (l : List Ev) (k : Nat) (hk : k < l.length) : (l.flatMap evC).set (k * 6 + 1) (.string ⟨#[]⟩) = (l.set k (bareE l[k]!)).flatMap evC :=
  flat_set evC 6 (fun _ => rfl) l k hk 1 (by omega) _ _ (fun x hx => by rw [← get_some hx]; rfl)
theorem own_kept {W W' : World} {B B' e e' z z' n n' : Nat} {v v' : Value} {xs xs' : List Value} (h : W.ownsRow B e z v n xs) (hs : W.ownsRow B' e' z' v' n' xs') (he : e' ≠ e) (hg : W.grownBy W' v'.ownBlock) : W'.ownsRow B e z v n xs := by
  rcases h.2 with ⟨hv, _⟩ | ⟨g, cap, cur, hv, _, hgg, _⟩
  · exact h.kept hg (.inl (by rw [hv]; rfl))
  · refine h.kept hg (.inr ?_)
    subst hv
    intro e1
    exact own_far hs hgg he e1.symm
theorem info_rl : (Try.prog.info? 53).map (fun i => (i.zero, i.size, i.bytes)) = some (some (.agg #[.int .i64 0, .string ⟨#[]⟩, .string ⟨#[]⟩, .int .i64 0]), 4, 48) := by kernel_rfl
theorem one_rl (x : Rl) : ∀ u ∈ rlC x, u.oneCell' = true := by intro u hu; simp [rlC] at hu; rcases hu with rfl | rfl | rfl | rfl <;> rfl
/-- The boxes of Back: the graph that is flat, the answer, what is made. -/
structure BK (w : World) (G : Nat) (fl : Array Value) (ve vr : Value) (n : Nat) (es : List Ev) (rs : List Rl) (W : World) : Prop where
  b : Below w.heap.size w W
  f : W.heap[w.heap.size]? = some (.cells fl 32 (0, 0))
  r : W.heap[w.heap.size + 1]? = some (.cells #[.slice none 0 0, .slice none 0 0, .slice none 0 0, .slice none 0 0] 27 (0, 0))
  g : W.heap[G]? = some (.cells #[.slice none 0 0, ve, vr, .slice none 0 0] 27 (0, 0))
  z : w.heap.size + 1 < G
  e : W.ownsRow w.heap.size 46 6 ve n (es.flatMap evC)
  s : W.ownsRow w.heap.size 53 4 vr rs.length (rs.flatMap rlC)
section
variable {w W W' : World} {G n : Nat} {fl : Array Value} {ve vr : Value} {es : List Ev} {rs : List Rl}
theorem BK.lt (h : BK w G fl ve vr n es rs W) : G < W.heap.size := blk_lt h.g
theorem BK.call (h : BK w G fl ve vr n es rs W) (hb : Below W.heap.size W W') : BK w G fl ve vr n es rs W' :=
  have hl := h.lt
  have hz := h.z
  ⟨h.b.trans (hb.mono (by omega)), (hb.block _ (by omega)).trans h.f, (hb.block _ (by omega)).trans h.r, (hb.block _ hl).trans h.g, hz, own_below h.e hb, own_below h.s hb⟩
theorem BK.alloc (h : BK w G fl ve vr n es rs W) (o : Obj) : BK w G fl ve vr n es rs (W.alloc o) := h.call ((Below.refl _ _).alloc (Nat.le_refl _) _)
theorem BK.drew (h : BK w G fl ve vr n es rs W) : BK w G fl ve vr n es rs W.drew := h.call (below_draws (Below.refl _ _) 1)
/-- An event's group is taken away. -/
theorem BK.bare {A cap k : Nat} (h : BK w G fl (.slice (some ⟨A, 0, none⟩) n cap) (.slice none 0 0) n es [] W) (hk : k < es.length) :
    BK w G fl (.slice (some ⟨A, 0, none⟩) n cap) (.slice none 0 0) n (es.set k (bareE es[k]!)) [] (W.setCell ⟨A, k * 6 + 1, none⟩ (.string ⟨#[]⟩)) := by
  have hl := h.lt
  have hz := h.z
  have h1 := h.e.stored (k * 6 + 1) (.string ⟨#[]⟩)
  rw [ev_set1 es k hk] at h1
  have far : ∀ (b : Nat) (cs : Array Value) (T : TypeId), W.heap[b]? = some (.cells cs T (0, 0)) → (46 : TypeId) ≠ T → b ≠ A := fun b cs T hb hT e => own_far h.e hb hT (by rw [e]; rfl)
  refine ⟨h.b.grown h1.2 (by omega) (fun j e => by cases e; exact (h.e.lt A rfl).1), ?_, ?_, ?_, hz, h1.1, World.ownsRow_nil _ _ _ _⟩
  · rw [blk_other (far _ _ _ h.f (by decide))]; exact h.f
  · rw [blk_other (far _ _ _ h.r (by decide))]; exact h.r
  · rw [blk_other (far _ _ _ h.g (by decide))]; exact h.g
/-- Behind an append of a relation, and behind its store. -/
theorem BK.put {v' : Value} {rs' : List Rl} (h : BK w G fl ve vr n es rs W) (hg : W.grownBy W' vr.ownBlock) (hv : W'.ownsRow w.heap.size 53 4 v' rs'.length (rs'.flatMap rlC)) :
    BK w G fl ve v' n es rs' (W'.setCell ⟨G, 2, none⟩ v') ∧ W'.cell? ⟨G, 2, none⟩ = some vr ∧ W'.frozen? ⟨G, 2, none⟩ = false ∧ G < W'.heap.size := by
  have hl := h.lt
  have hz := h.z
  have k : ∀ j (cs : Array Value) (T : TypeId), W.heap[j]? = some (Obj.cells cs T (0, 0)) → (53 : TypeId) ≠ T → W'.heap[j]? = some (Obj.cells cs T (0, 0)) := fun j cs T hj hT =>
    (hg.block j (blk_lt hj) (fun e => own_far h.s hj hT e.symm)).trans hj
  have kf := k _ _ _ h.f (by decide)
  have kr := k _ _ _ h.r (by decide)
  have ko := k _ _ _ h.g (by decide)
  have ke := own_kept h.e h.s (by decide) hg
  refine ⟨⟨(h.b.grown hg (by omega) (fun j hj => (h.s.lt j hj).1)).setCell (p := ⟨G, 2, none⟩) (by show w.heap.size ≤ G; omega) v', ?_, ?_, ?_, hz, own_set ke (own_far ke ko (by decide)) _, own_set hv (own_far hv ko (by decide)) _⟩, cell_blk ko rfl, frozen_blk ko, blk_lt ko⟩
  · rw [blk_other (by omega)]; exact kf
  · rw [blk_other (by omega)]; exact kr
  · rw [blk_set ko]; rfl
end
/-- The same, with the names and the ties that are gone through. -/
structure BN (w : World) (G : Nat) (fl : Array Value) (ve vr vn vc : Value) (n : Nat) (es : List Ev) (rs : List Rl) (ns : List ByteArray) (cs : List Ti) (W : World) : Prop where
  k : BK w G fl ve vr n es rs W
  n : W.ownsRow w.heap.size 9 1 vn n (ns.map Value.string)
  c : W.ownsRow w.heap.size 49 4 vc cs.length (cs.flatMap tiC)
section
variable {w W W' : World} {G n : Nat} {fl : Array Value} {ve vr vn vc : Value} {es : List Ev} {rs : List Rl} {ns : List ByteArray} {cs : List Ti}
theorem BN.call (h : BN w G fl ve vr vn vc n es rs ns cs W) (hb : Below W.heap.size W W') : BN w G fl ve vr vn vc n es rs ns cs W' := ⟨h.k.call hb, own_below h.n hb, own_below h.c hb⟩
theorem BN.alloc (h : BN w G fl ve vr vn vc n es rs ns cs W) (o : Obj) : BN w G fl ve vr vn vc n es rs ns cs (W.alloc o) := h.call ((Below.refl _ _).alloc (Nat.le_refl _) _)
theorem BN.drew (h : BN w G fl ve vr vn vc n es rs ns cs W) : BN w G fl ve vr vn vc n es rs ns cs W.drew := h.call (below_draws (Below.refl _ _) 1)
theorem BN.put {v' : Value} {rs' : List Rl} (h : BN w G fl ve vr vn vc n es rs ns cs W) (hg : W.grownBy W' vr.ownBlock) (hv : W'.ownsRow w.heap.size 53 4 v' rs'.length (rs'.flatMap rlC)) :
    BN w G fl ve v' vn vc n es rs' ns cs (W'.setCell ⟨G, 2, none⟩ v') ∧ W'.cell? ⟨G, 2, none⟩ = some vr ∧ W'.frozen? ⟨G, 2, none⟩ = false ∧ G < W'.heap.size := by
  obtain ⟨h1, h2, h3, h4⟩ := h.k.put hg hv
  have kn := own_kept h.n h.k.s (by decide) hg
  have kc := own_kept h.c h.k.s (by decide) hg
  have ko : W'.heap[G]? = some (.cells #[.slice none 0 0, ve, vr, .slice none 0 0] 27 (0, 0)) := (hg.block G h.k.lt (fun e => own_far h.k.s h.k.g (by decide) e.symm)).trans h.k.g
  exact ⟨⟨h1, own_set kn (own_far kn ko (by decide)) _, own_set kc (own_far kc ko (by decide)) _⟩, h2, h3, h4⟩
end
/-- The same, with a tie in a box of its own. -/
structure BT (w : World) (G : Nat) (fl : Array Value) (ve vr vn vc : Value) (n : Nat) (es : List Ev) (rs : List Rl) (ns : List ByteArray) (cs : List Ti) (tb : Nat) (x : Ti) (gn i j : Nat) (si sj : ByteArray) (W : World) : Prop where
  k : BN w G fl ve vr vn vc n es rs ns cs W
  t : W.heap[tb]? = some (.cells #[.int .i64 x.kind, .int .i64 x.fr, .int .i64 x.to, .int .i64 x.time] 49 (0, 0))
  i : W.cell? ⟨gn, i, none⟩ = some (.string si)
  j : W.cell? ⟨gn, j, none⟩ = some (.string sj)
section
variable {w W W' : World} {G n tb gn i j : Nat} {fl : Array Value} {ve vr vn vc : Value} {es : List Ev} {rs : List Rl} {ns : List ByteArray} {cs : List Ti} {x : Ti} {si sj : ByteArray}
theorem bt_call (hb : Below W.heap.size W W') (h : BT w G fl ve vr vn vc n es rs ns cs tb x gn i j si sj W) : BT w G fl ve vr vn vc n es rs ns cs tb x gn i j si sj W' :=
  ⟨h.k.call hb, (hb.block _ (blk_lt h.t)).trans h.t, (hb.cell (p := ⟨gn, i, none⟩) (World.block_lt_of_cell? _ _ h.i)).trans h.i, (hb.cell (p := ⟨gn, j, none⟩) (World.block_lt_of_cell? _ _ h.j)).trans h.j⟩
theorem bt_alloc (o : Obj) (h : BT w G fl ve vr vn vc n es rs ns cs tb x gn i j si sj W) : BT w G fl ve vr vn vc n es rs ns cs tb x gn i j si sj (W.alloc o) := bt_call ((Below.refl _ _).alloc (Nat.le_refl _) _) h
theorem bt_drew (h : BT w G fl ve vr vn vc n es rs ns cs tb x gn i j si sj W) : BT w G fl ve vr vn vc n es rs ns cs tb x gn i j si sj W.drew := bt_call (below_draws (Below.refl _ _) 1) h
theorem bt_all (h : BT w G fl ve vr vn vc n es rs ns cs tb x gn i j si sj W) : BT w G fl ve vr vn vc n es rs ns cs tb x gn i j si sj W ∧ W.cell? ⟨tb, 0, none⟩ = some (.int .i64 x.kind) ∧ W.cell? ⟨tb, 1, none⟩ = some (.int .i64 x.fr) ∧ W.cell? ⟨tb, 2, none⟩ = some (.int .i64 x.to) ∧ W.cell? ⟨tb, 3, none⟩ = some (.int .i64 x.time) ∧ W.cell? ⟨gn, i, none⟩ = some (.string si) ∧ W.cell? ⟨gn, j, none⟩ = some (.string sj) :=
  ⟨h, cell_blk h.t rfl, cell_blk h.t rfl, cell_blk h.t rfl, cell_blk h.t rfl, h.i, h.j⟩
end
theorem tie_at {W : World} {B m cap g k : Nat} {cs : List Ti} (h : W.ownsRow B 49 4 (.slice (some ⟨g, 0, none⟩) m cap) m (cs.flatMap tiC)) (hl : cs.length = m) (hk : k < m) :
    W.cell? ⟨g, k * 4, none⟩ = some (.int .i64 cs[k]!.kind) ∧ W.cell? ⟨g, k * 4 + 1, none⟩ = some (.int .i64 cs[k]!.fr) ∧ W.cell? ⟨g, k * 4 + 2, none⟩ = some (.int .i64 cs[k]!.to) ∧ W.cell? ⟨g, k * 4 + 3, none⟩ = some (.int .i64 cs[k]!.time) := by
  have hf := fun j hj => flat_at tiC 4 (fun _ => rfl) cs k (by omega) j hj
  exact ⟨(h.cellAt (k * 4) (by omega)).trans (hf 0 (by omega)), (h.cellAt (k * 4 + 1) (by omega)).trans (hf 1 (by omega)), (h.cellAt (k * 4 + 2) (by omega)).trans (hf 2 (by omega)), (h.cellAt (k * 4 + 3) (by omega)).trans (hf 3 (by omega))⟩
theorem ev_at {W : World} {B m cap g k : Nat} {es : List Ev} (h : W.ownsRow B 46 6 (.slice (some ⟨g, 0, none⟩) m cap) m (es.flatMap evC)) (hl : es.length = m) (hk : k < m) :
    W.cell? ⟨g, k * 6 + 1, none⟩ = some (.string es[k]!.group) ∧ W.frozen? ⟨g, k * 6 + 1, none⟩ = false := by
  have hf := fun j hj => flat_at evC 6 (fun _ => rfl) es k (by omega) j hj
  exact ⟨(h.cellAt (k * 6 + 1) (by omega)).trans (hf 1 (by omega)), h.frozenAt _⟩
theorem name_at {W : World} {B m cap g k : Nat} {es : List Ev} (h : W.ownsRow B 9 1 (.slice (some ⟨g, 0, none⟩) m cap) m ((es.map (·.name)).map Value.string)) (hl : es.length = m) (hk : k < m) :
    W.cell? ⟨g, k, none⟩ = some (.string es[k]!.name) := by
  refine (h.cellAt k (by omega)).trans ?_
  rw [List.getElem?_map, List.getElem?_map, List.getElem?_eq_getElem (by omega), getElem!_pos es k (by omega)]; rfl
/-- The relations of the first k ties. -/
def relL (es : List Ev) (cs : List Ti) (k : Nat) : List Rl := (cs.take k).map (backR es)
theorem rel_next {es : List Ev} {cs : List Ti} {k : Nat} (hk : k < cs.length) : relL es cs (k + 1) = relL es cs k ++ [backR es cs[k]!] := map_next hk
theorem rel_all (es : List Ev) (cs : List Ti) : relL es cs cs.length = cs.map (backR es) := by unfold relL; rw [List.take_length]
theorem rel_len {es : List Ev} {cs : List Ti} {k : Nat} (hk : k ≤ cs.length) : (relL es cs k).length = k := by simp [relL, hk]
theorem betw_at {n : Nat} {ts : List Ti} {k : Nat} (hk : k < (ts.filter (betw n)).length) : ∃ i j : Nat, (ts.filter (betw n))[k]!.fr = (i : Int) ∧ i < n ∧ (ts.filter (betw n))[k]!.to = (j : Int) ∧ j < n := by
  have h1 := (List.mem_filter.1 (mem_at hk)).2
  unfold betw hasI at h1
  simp only [Bool.and_eq_true, decide_eq_true_eq] at h1
  exact ⟨_, _, (Int.toNat_of_nonneg h1.1.1).symm, by omega, (Int.toNat_of_nonneg h1.2.1).symm, by omega⟩
/-- What Back answers. -/
def BackEnd (w : World) (es : List Ev) (ts : List Ti) (e : Ending) (w' : World) : Prop :=
  ∃ ve vr, e = .returned (.agg #[.slice none 0 0, ve, vr, .slice none 0 0]) ∧ w'.ownsRow w.heap.size 46 6 ve es.length ((es.map bareE).flatMap evC) ∧ w'.ownsRow w.heap.size 53 4 vr (backL es ts).length ((backL es ts).flatMap rlC) ∧ Below w.heap.size w w'
set_option maxRecDepth 100000 in
set_option maxHeartbeats 8000000 in
theorem back_any (w : World) (EA TA : Option Addr) (ec tc : Nat) (es : List Ev) (ts : List Ti) (he : Row w EA (es.flatMap evC)) (ht : Row w TA (ts.flatMap tiC)) (hel : es.length * 64 ≤ 140737488351232) (htl : ts.length * 48 ≤ 140737488351232) :
    Calls Try.prog 22 #[.agg #[.slice EA es.length ec, .slice TA ts.length tc]] w (BackEnd w es ts) := by
  obtain ⟨i0, hi, hz0, hz1, hz2⟩ := info_parts info_rl
  have HI := Lib.hid hi
  have HZ0 := Lib.hid hz0
  have HZ1 := Lib.hid hz1
  have HZ2 := Lib.hid hz2
  have HE := Lib.hid he
  have HT := Lib.hid ht
  clear he ht hi hz0 hz1 hz2
  obtain ⟨w2, hw2⟩ : ∃ w2, w2 = (w.alloc (.cells #[.slice EA es.length ec, .slice TA ts.length tc] 32)).alloc (.cells #[.slice none 0 0, .slice none 0 0, .slice none 0 0, .slice none 0 0] 27) := ⟨_, rfl⟩
  have hb2 : Below w.heap.size w w2 := by rw [hw2]; exact ((Below.refl _ _).alloc (Nat.le_refl _) _).alloc (by rw [World.size_alloc]; omega) _
  have s2 : w2.heap.size = w.heap.size + 1 + 1 := by rw [hw2, World.size_alloc, World.size_alloc]
  have f2 : w2.heap[w.heap.size]? = some (.cells #[.slice EA es.length ec, .slice TA ts.length tc] 32 (0, 0)) := by rw [hw2]; exact heap_old (by rw [World.size_alloc]; omega) (heap_new _ _)
  have r2 : w2.heap[w.heap.size + 1]? = some (.cells #[.slice none 0 0, .slice none 0 0, .slice none 0 0, .slice none 0 0] 27 (0, 0)) := by
    have h := heap_new (w.alloc (.cells #[.slice EA es.length ec, .slice TA ts.length tc] 32)) (.cells #[.slice none 0 0, .slice none 0 0, .slice none 0 0, .slice none 0 0] 27)
    rw [World.size_alloc] at h
    rw [hw2]; exact h
  have C := Lib.hid (clone_ev EA ec es w2 (HE.out.below (Nat.le_refl _) hb2) hel)
  have HW2 := Lib.hid hw2
  have HB2 := Lib.hid hb2
  have HF2 := Lib.hid f2
  have HR2 := Lib.hid r2
  clear hw2 hb2 f2 r2
  go_enter Try.func22, Try.ntmps22
  go_wp2_with fail
  rw [← HW2.out]
  refine C.out.mono ?_
  rintro e w3 ⟨ve, rfl, ho, hb⟩
  obtain ⟨A, cap, rfl⟩ := own_slice ho
  have z3 := hb.size
  have K4 : Hid (BK w w3.heap.size #[.slice EA es.length ec, .slice TA ts.length tc] (.slice A es.length cap) (.slice none 0 0) es.length (bareL es 0) [] (w3.alloc (.cells #[.slice none 0 0, .slice A es.length cap, .slice none 0 0, .slice none 0 0] 27))) := Lib.hid (by
    have hq : Below w3.heap.size w3 (w3.alloc (.cells #[.slice none 0 0, .slice A es.length cap, .slice none 0 0, .slice none 0 0] 27)) := (Below.refl _ _).alloc (Nat.le_refl _) _
    refine ⟨(HB2.out.trans (hb.mono (by omega))).trans (hq.mono (by omega)), (hq.block _ (by omega)).trans ((hb.block _ (by omega)).trans HF2.out), (hq.block _ (by omega)).trans ((hb.block _ (by omega)).trans HR2.out), heap_new _ _, by omega, ?_, World.ownsRow_nil _ _ _ _⟩
    rw [bare_zero]; exact own_below (own_base ho (by omega)) hq)
  obtain ⟨G, hG⟩ : ∃ G, G = w3.heap.size := ⟨_, rfl⟩
  have HGx := Lib.hid hG
  have hG3 : w.heap.size + 1 < w3.heap.size := by omega
  clear hG C HW2 HB2 HF2 HR2 ho hb z3 s2
  rw [← HGx.out] at K4 hG3
  go_wp2_with fail
  rw [← HGx.out]
  go_loopw [16] (fun i wr => ∃ k : Nat, k ≤ es.length ∧ i = .int .i64 k ∧ Hid (BK w G #[.slice EA es.length ec, .slice TA ts.length tc] (.slice A es.length cap) (.slice none 0 0) es.length (bareL es k) [] wr)) (fun i _ => es.length - (intOf i).toNat)
  case atStart => exact ⟨0, Nat.zero_le _, rfl, K4⟩
  case round =>
    clear K4
    obtain ⟨k, hk, rfl, HK⟩ := hrel
    by_cases hlt : k < es.length
    · have hk0 : (0 : Int) ≤ (k : Int) := Int.natCast_nonneg _
      have hk1 : (k : Int) < (es.length : Int) := by omega
      have g1 : wr.cell? ⟨G, 1, none⟩ = some (.slice A es.length cap) := cell_blk HK.out.g rfl
      have ll := HK.out.lt
      have hbl := bare_len hk
      obtain ⟨ga, cap', e1, _, hgz⟩ := own_head HK.out.e (by omega)
      injection e1 with e1 _ e2
      subst e1
      obtain ⟨y1, y2⟩ := ev_at HK.out.e hbl hlt
      have HK5 := Lib.hid (HK.out.bare (k := k) (by omega))
      rw [bare_at hlt, ← bare_next hlt] at HK5
      clear HK
      go_wp2_with fail
      go_roundw
      case rel => exact ⟨k + 1, hlt, by go_num, HK5⟩
      case measure => simp [intOf]; omega
    · obtain rfl : k = es.length := by omega
      rw [bare_all] at HK
      have N := Lib.hid (names_fl wr EA TA ec ts.length tc es (HE.out.below (Nat.le_refl _) HK.out.b) hel)
      have f0 : wr.cell? ⟨w.heap.size, 0, none⟩ = some (.slice EA es.length ec) := cell_blk HK.out.f rfl
      have f1 : wr.cell? ⟨w.heap.size, 1, none⟩ = some (.slice TA ts.length tc) := cell_blk HK.out.f rfl
      have ll : w.heap.size < wr.heap.size := blk_lt HK.out.f
      go_wp2_with fail
      refine N.out.mono ?_
      rintro e w5 ⟨vn, rfl, hn, hb5⟩
      have HK5 := Lib.hid (HK.out.call hb5)
      have HN5 := Lib.hid (own_base hn (Nat.le_of_lt ll))
      clear f0 f1 ll N hn hb5 HK
      have f0 : w5.cell? ⟨w.heap.size, 0, none⟩ = some (.slice EA es.length ec) := cell_blk HK5.out.f rfl
      have f1 : w5.cell? ⟨w.heap.size, 1, none⟩ = some (.slice TA ts.length tc) := cell_blk HK5.out.f rfl
      have ll : w.heap.size < w5.heap.size := blk_lt HK5.out.f
      have H := Lib.hid (chosen_own w5 EA TA es.length ec tc ts (betw es.length) 55 (.agg #[.slice EA es.length ec, .slice TA ts.length tc]) (HT.out.below (Nat.le_refl _) HK5.out.b) (by omega) (enters_of Try.func55 (by kernel_rfl) rfl) (fun W t _ => between_fl W EA TA es.length ec ts.length tc t))
      go_wp2_with fail
      refine H.out.mono ?_
      rintro e w6 ⟨vc, rfl, hc, hb6⟩
      obtain ⟨CA, cc, rfl⟩ := own_slice hc
      obtain ⟨NA, nc, rfl⟩ := own_slice HN5.out
      have HN6 : Hid (BN w G #[.slice EA es.length ec, .slice TA ts.length tc] (.slice A es.length cap) (.slice none 0 0) (.slice NA es.length nc) (.slice CA (ts.filter (betw es.length)).length cc) es.length (es.map bareE) (relL es (ts.filter (betw es.length)) 0) (es.map (·.name)) (ts.filter (betw es.length)) w6) := Lib.hid ⟨HK5.out.call hb6, own_below HN5.out hb6, own_base hc (Nat.le_of_lt ll)⟩
      have HBT := fun k h => Lib.hid (betw_at (n := es.length) (ts := ts) (k := k) h)
      have HLen : (ts.filter (betw es.length)).length ≤ ts.length := List.length_filter_le _ _
      have HEnd : Hid (backL es ts = (ts.filter (betw es.length)).map (backR es)) := Lib.hid rfl
      clear H hc hb6 HK5 HN5 f0 f1 ll
      generalize ts.filter (betw es.length) = cs at *
      go_wp2_with fail
      go_loopw [32] (fun i wr => ∃ (k : Nat) (vr : Value), k ≤ cs.length ∧ i = .int .i64 k ∧ Hid (BN w G #[.slice EA es.length ec, .slice TA ts.length tc] (.slice A es.length cap) vr (.slice NA es.length nc) (.slice CA cs.length cc) es.length (es.map bareE) (relL es cs k) (es.map (·.name)) cs wr)) (fun i _ => cs.length - (intOf i).toNat)
      case atStart => exact ⟨0, _, Nat.zero_le _, rfl, HN6⟩
      case round =>
        clear HN6
        obtain ⟨k, vr, hk, rfl, HB⟩ := hrel
        by_cases hlt : k < cs.length
        · have hk0 : (0 : Int) ≤ (k : Int) := Int.natCast_nonneg _
          have hk1 : (k : Int) < (cs.length : Int) := by omega
          obtain ⟨i, j, hi1, hi2, hj1, hj2⟩ := (HBT k hlt).out
          obtain ⟨gc, _, e1, _, hgc⟩ := own_head HB.out.c (by omega)
          injection e1 with e1 _ e1c
          subst e1 e1c
          obtain ⟨gn, _, e2, _, hgn⟩ := own_head HB.out.n (by omega)
          injection e2 with e2 _ e2c
          subst e2 e2c
          obtain ⟨k0, k1, k2, k3⟩ := tie_at HB.out.c rfl hlt
          have ni := name_at HB.out.n rfl hi2
          have nj := name_at HB.out.n rfl hj2
          have HRN := Lib.hid (rel_next (es := es) hlt)
          have HS := Lib.hid (rel_len (es := es) hk)
          obtain ⟨qa, qc, rfl⟩ := own_slice HB.out.k.s
          generalize cs[k]! = x at *
          obtain ⟨kd, fr, dst, tm⟩ := x
          simp only at k0 k1 k2 k3 hi1 hj1
          subst hi1 hj1
          have hi0 : (0 : Int) ≤ (i : Int) := Int.natCast_nonneg _
          have hi3 : (i : Int) < (es.length : Int) := by omega
          have hj0 : (0 : Int) ≤ (j : Int) := Int.natCast_nonneg _
          have hj3 : (j : Int) < (es.length : Int) := by omega
          have HRN2 : Hid (relL es cs (k + 1) = relL es cs k ++ [⟨kd, es[i]!.name, es[j]!.name, tm⟩]) := HRN
          generalize es[i]!.name = si at *
          generalize es[j]!.name = sj at *
          clear HRN
          have ll := HB.out.k.lt
          have T1 : BT w G #[.slice EA es.length ec, .slice TA ts.length tc] (.slice A es.length cap) (.slice qa (relL es cs k).length qc) (.slice (some ⟨gn, 0, none⟩) es.length nc) (.slice (some ⟨gc, 0, none⟩) cs.length cc) es.length (es.map bareE) (relL es cs k) (es.map (·.name)) cs wr.heap.size ⟨kd, i, j, tm⟩ gn i j si sj (wr.alloc (.cells #[.int .i64 kd, .int .i64 i, .int .i64 j, .int .i64 tm] 49)) :=
            ⟨HB.out.alloc _, heap_new _ _, (World.cell?_alloc_lt _ _ ⟨gn, i, none⟩ hgn).trans ni, (World.cell?_alloc_lt _ _ ⟨gn, j, none⟩ hgn).trans nj⟩
          have HT1 := Lib.hid T1
          clear HB T1
          go_wp2_with fail
          go_cut [8] (fun s8 wc => s8 = .pointer (some ⟨wr.heap.size + 1, 0, none⟩) ∧ Hid (BN w G #[.slice EA es.length ec, .slice TA ts.length tc] (.slice A es.length cap) (.slice qa (relL es cs k).length qc) (.slice (some ⟨gn, 0, none⟩) es.length nc) (.slice (some ⟨gc, 0, none⟩) cs.length cc) es.length (es.map bareE) (relL es cs k) (es.map (·.name)) cs wc) ∧ wc.heap[wr.heap.size + 1]? = some (.cells #[.int .i64 kd, .string si, .string sj, .int .i64 tm] 53 (0, 0)))
          case first =>
            clear k0 k1 k2 k3 ni nj
            have t1 := HT1.out
            have s1 : (wr.alloc (.cells #[.int .i64 kd, .int .i64 i, .int .i64 j, .int .i64 tm] 49)).heap.size = wr.heap.size + 1 := by rw [World.size_alloc]
            obtain ⟨W1, hW1⟩ : ∃ W1, W1 = wr.alloc (.cells #[.int .i64 kd, .int .i64 i, .int .i64 j, .int .i64 tm] 49) := ⟨_, rfl⟩
            rw [← hW1] at t1 s1 ⊢
            clear hW1 HT1
            go_region_held3 (fun W => BT w G #[.slice EA es.length ec, .slice TA ts.length tc] (.slice A es.length cap) (.slice qa (relL es cs k).length qc) (.slice (some ⟨gn, 0, none⟩) es.length nc) (.slice (some ⟨gc, 0, none⟩) cs.length cc) es.length (es.map bareE) (relL es cs k) (es.map (·.name)) cs wr.heap.size ⟨kd, i, j, tm⟩ gn i j si sj W ∧ W.cell? ⟨wr.heap.size, 0, none⟩ = some (.int .i64 kd) ∧ W.cell? ⟨wr.heap.size, 1, none⟩ = some (.int .i64 i) ∧ W.cell? ⟨wr.heap.size, 2, none⟩ = some (.int .i64 j) ∧ W.cell? ⟨wr.heap.size, 3, none⟩ = some (.int .i64 tm) ∧ W.cell? ⟨gn, i, none⟩ = some (.string si) ∧ W.cell? ⟨gn, j, none⟩ = some (.string sj))
              (((try go_split_ands); (first | exact bt_all (by with_reducible assumption) | exact bt_all (bt_drew (by with_reducible assumption)) | exact bt_all (bt_alloc _ (by with_reducible assumption)) | exact bt_all (bt_alloc _ (bt_drew (by with_reducible assumption))))))
              (fail)
            go_wp2_with fail
            go_meet
            exact ⟨rfl, Lib.hid ((t1.k.alloc _).drew), by rw [← s1]; exact heap_new _ _⟩
          case rest =>
            obtain ⟨rfl, HB1, hn1⟩ := hcut
            clear HT1 k0 k1 k2 k3 ni nj ll hgc hgn
            have g2 : wc.cell? ⟨G, 2, none⟩ = some (.slice qa (relL es cs k).length qc) := cell_blk HB1.out.k.g rfl
            have r0 : wc.cell? ⟨wr.heap.size + 1, 0, none⟩ = some (.int .i64 kd) := cell_blk hn1 rfl
            have r1 : wc.cell? ⟨wr.heap.size + 1, 1, none⟩ = some (.string si) := cell_blk hn1 rfl
            have r2 : wc.cell? ⟨wr.heap.size + 1, 2, none⟩ = some (.string sj) := cell_blk hn1 rfl
            have r3 : wc.cell? ⟨wr.heap.size + 1, 3, none⟩ = some (.int .i64 tm) := cell_blk hn1 rfl
            have ll := HB1.out.k.lt
            have lr := blk_lt hn1
            have HB2 := Lib.hid (HB1.out.alloc (.cells #[.int .i64 kd, .string si, .string sj, .int .i64 tm] 53))
            have HN2 := Lib.hid (heap_new wc (.cells #[.int .i64 kd, .string si, .string sj, .int .i64 tm] 53))
            clear HB1 hn1
            go_wp2_with (at_builtin; refine wpList_append_own _ rfl (.tmp 52) (.tmp 54) 24 rfl w.heap.size 53 i0 _ 4 48 Try.underlying24 HI.out HZ0.out HZ1.out HZ2.out rfl (by omega) _ _ _ rfl HB2.out.k.s ⟨wc.heap.size, 0, none⟩ 1 1 (rlC ⟨kd, si, sj, tm⟩) rfl rfl ?c1 ?c2 ?c3 ?c4 ?c5 ?_)
            case c1 =>
              intro q u hq
              match q, hq with
              | 0, hq => cases hq; exact cell_blk HN2.out rfl
              | 1, hq => cases hq; exact cell_blk HN2.out rfl
              | 2, hq => cases hq; exact cell_blk HN2.out rfl
              | 3, hq => cases hq; exact cell_blk HN2.out rfl
            case c2 => exact one_rl _
            case c3 => have hs := HS.out; unfold maxLen; omega
            case c4 => have hs := HS.out; omega
            case c5 => have := HB2.out.k.b.size; exact this
            intro v' w9 hown' hgrow _
            obtain ⟨pa, pc, rfl⟩ := own_slice hown'
            have hown2 : w9.ownsRow w.heap.size 53 4 (.slice pa ((relL es cs k).length + 1) pc) (relL es cs (k + 1)).length ((relL es cs (k + 1)).flatMap rlC) := by
              rw [HRN2.out, List.length_append, List.flatMap_append]
              have e8 : List.flatMap rlC [(⟨kd, si, sj, tm⟩ : Rl)] = rlC ⟨kd, si, sj, tm⟩ := by simp
              rw [e8]; exact hown'
            obtain ⟨hB9, y1, f1, l1⟩ := HB2.out.put hgrow hown2
            have HB9 := Lib.hid hB9
            clear hown' hown2 hgrow hB9 HB2 HN2 g2 r0 r1 r2 r3 lr ll
            go_wp2_with fail
            go_roundw
            case rel => exact ⟨k + 1, _, hlt, by go_num, HB9⟩
            case measure => simp [intOf]; omega
        · obtain rfl : k = cs.length := by omega
          rw [rel_all, ← HEnd.out] at HB
          obtain ⟨pa, pc, rfl⟩ := own_slice HB.out.k.s
          have g0 : wr.cell? ⟨G, 0, none⟩ = some (.slice none 0 0) := cell_blk HB.out.k.g rfl
          have g1 : wr.cell? ⟨G, 1, none⟩ = some (.slice A es.length cap) := cell_blk HB.out.k.g rfl
          have g2 : wr.cell? ⟨G, 2, none⟩ = some (.slice pa (backL es ts).length pc) := cell_blk HB.out.k.g rfl
          have g3 : wr.cell? ⟨G, 3, none⟩ = some (.slice none 0 0) := cell_blk HB.out.k.g rfl
          have ll := HB.out.k.lt
          have lr := blk_lt HB.out.k.r
          have q0 := frozen_blk (i := 0) HB.out.k.r
          have q1 := frozen_blk (i := 1) HB.out.k.r
          have q2 := frozen_blk (i := 2) HB.out.k.r
          have q3 := frozen_blk (i := 3) HB.out.k.r
          have r0 : wr.cell? ⟨w.heap.size + 1, 0, none⟩ = some (.slice none 0 0) := cell_blk HB.out.k.r rfl
          have r1 : wr.cell? ⟨w.heap.size + 1, 1, none⟩ = some (.slice none 0 0) := cell_blk HB.out.k.r rfl
          have r2 : wr.cell? ⟨w.heap.size + 1, 2, none⟩ = some (.slice none 0 0) := cell_blk HB.out.k.r rfl
          have r3 : wr.cell? ⟨w.heap.size + 1, 3, none⟩ = some (.slice none 0 0) := cell_blk HB.out.k.r rfl
          go_wp2_with fail
          obtain ⟨W4, hW4⟩ : ∃ W4, W4 = (((wr.setCell ⟨w.heap.size + 1, 0, none⟩ (.slice none 0 0)).setCell ⟨w.heap.size + 1, 1, none⟩ (.slice A es.length cap)).setCell ⟨w.heap.size + 1, 2, none⟩ (.slice pa (backL es ts).length pc)).setCell ⟨w.heap.size + 1, 3, none⟩ (.slice none 0 0) := ⟨_, rfl⟩
          have b0 : (wr.setCell ⟨w.heap.size + 1, 0, none⟩ (.slice none 0 0)).heap[w.heap.size + 1]? = some (.cells #[.slice none 0 0, .slice none 0 0, .slice none 0 0, .slice none 0 0] 27 (0, 0)) := by rw [blk_set HB.out.k.r]; rfl
          have b1 : ((wr.setCell ⟨w.heap.size + 1, 0, none⟩ (.slice none 0 0)).setCell ⟨w.heap.size + 1, 1, none⟩ (.slice A es.length cap)).heap[w.heap.size + 1]? = some (.cells #[.slice none 0 0, .slice A es.length cap, .slice none 0 0, .slice none 0 0] 27 (0, 0)) := by rw [blk_set b0]; rfl
          have b2 : (((wr.setCell ⟨w.heap.size + 1, 0, none⟩ (.slice none 0 0)).setCell ⟨w.heap.size + 1, 1, none⟩ (.slice A es.length cap)).setCell ⟨w.heap.size + 1, 2, none⟩ (.slice pa (backL es ts).length pc)).heap[w.heap.size + 1]? = some (.cells #[.slice none 0 0, .slice A es.length cap, .slice pa (backL es ts).length pc, .slice none 0 0] 27 (0, 0)) := by rw [blk_set b1]; rfl
          have b3 : W4.heap[w.heap.size + 1]? = some (.cells #[.slice none 0 0, .slice A es.length cap, .slice pa (backL es ts).length pc, .slice none 0 0] 27 (0, 0)) := by rw [hW4, blk_set b2]; rfl
          have hq : w.heap.size ≤ w.heap.size + 1 := by omega
          have hB4 : Below w.heap.size w W4 := by
            rw [hW4]
            exact (((HB.out.k.b.setCell (p := ⟨w.heap.size + 1, 0, none⟩) hq _).setCell (p := ⟨w.heap.size + 1, 1, none⟩) hq _).setCell (p := ⟨w.heap.size + 1, 2, none⟩) hq _).setCell (p := ⟨w.heap.size + 1, 3, none⟩) hq _
          have fe := own_far HB.out.k.e HB.out.k.r (by decide)
          have fs := own_far HB.out.k.s HB.out.k.r (by decide)
          have hE4 : W4.ownsRow w.heap.size 46 6 (.slice A es.length cap) es.length ((es.map bareE).flatMap evC) := by
            rw [hW4]; exact own_set (own_set (own_set (own_set HB.out.k.e fe _) fe _) fe _) fe _
          have hS4 : W4.ownsRow w.heap.size 53 4 (.slice pa (backL es ts).length pc) (backL es ts).length ((backL es ts).flatMap rlC) := by
            rw [hW4]; exact own_set (own_set (own_set (own_set HB.out.k.s fs _) fs _) fs _) fs _
          rw [← hW4]
          have z0 : W4.cell? ⟨w.heap.size + 1, 0, none⟩ = some (.slice none 0 0) := cell_blk b3 rfl
          have z1 : W4.cell? ⟨w.heap.size + 1, 1, none⟩ = some (.slice A es.length cap) := cell_blk b3 rfl
          have z2 : W4.cell? ⟨w.heap.size + 1, 2, none⟩ = some (.slice pa (backL es ts).length pc) := cell_blk b3 rfl
          have z3 : W4.cell? ⟨w.heap.size + 1, 3, none⟩ = some (.slice none 0 0) := cell_blk b3 rfl
          clear hW4 b0 b1 b2 b3
          exact bodyPost_ret (v := .agg #[.slice none 0 0, .slice A es.length cap, .slice pa (backL es ts).length pc, .slice none 0 0]) (by simp [results, Try.results22, go_sem, z0, z1, z2, z3]) rfl ⟨_, _, rfl, hE4, hS4, hB4⟩
end Go.Proofs.Ytplplkchibefjaa.F4
namespace Go.Proofs.Ytplplkchibefjaa.F4
open Go.RowKit Go.Shelf Go.Proofs.Ytplplkchibefjaa.B

theorem info_rti4 : (Try.prog.info? 101).map (fun i => (i.zero, i.size, i.bytes)) = some (some (.agg #[.int .i64 0, .int .i64 0, .int .i64 0, .int .i64 0]), 4, 32) := by kernel_rfl
theorem one_ti4 (x : Ti) : ∀ u ∈ tiC x, u.oneCell' = true := by intro u hu; simp [tiC] at hu; rcases hu with rfl | rfl | rfl | rfl <;> rfl
theorem own_empty4 {w : World} {b B z : Nat} {T : TypeId} (h : w.heap[b]? = some (.cells #[] T (0, 0))) (hB : B ≤ b) : w.ownsRow B T z (.slice (some ⟨b, 0, none⟩) 0 0) 0 [] :=
  ⟨by simp, .inr ⟨b, 0, #[], rfl, hB, h, by simp, by unfold maxLen; omega, by simp, by simp⟩⟩
set_option maxRecDepth 100000 in
set_option maxHeartbeats 4000000 in
theorem own4_any (w : World) (A : Option Addr) (c : Nat) (ts : List Ti) (hr : Row w A (ts.flatMap tiC)) (hl : ts.length * 32 ≤ 140737488351232) :
    Calls Try.prog 21 #[.slice A ts.length c] w fun e w' => ∃ v, e = .returned v ∧ w'.ownsRow w.heap.size 101 4 v ts.length (ts.flatMap tiC) ∧ Below w.heap.size w w' := by
  obtain ⟨i0, hi, hz0, hz1, hz2⟩ := info_parts info_rti4
  have HI := Lib.hid hi
  have HZ0 := Lib.hid hz0
  have HZ1 := Lib.hid hz1
  have HZ2 := Lib.hid hz2
  have HR := Lib.hid hr
  have B0 := Lib.hid ((Below.refl w.heap.size w).alloc (Nat.le_refl _) (.cells #[] 101))
  have V0 : Hid ((w.alloc (.cells #[] 101)).ownsRow w.heap.size 101 4 (.slice (some ⟨w.heap.size, 0, none⟩) 0 0) 0 ((ts.take 0).flatMap tiC)) := Lib.hid (own_empty4 (heap_new _ _) (Nat.le_refl _))
  clear hr hi hz0 hz1 hz2
  go_enter Try.func21, Try.ntmps21
  go_wp2_with fail
  go_loopw [3, 8] (fun v i wr => ∃ k : Nat, k ≤ ts.length ∧ i = .int .i64 k ∧ Hid (wr.ownsRow w.heap.size 101 4 v k ((ts.take k).flatMap tiC)) ∧ Hid (Below w.heap.size w wr)) (fun _ i _ => ts.length - (intOf i).toNat)
  case atStart => exact ⟨0, Nat.zero_le _, rfl, V0, B0⟩
  case round =>
    clear V0 B0
    obtain ⟨k, hk, rfl, HV, HB⟩ := hrel
    by_cases hlt : k < ts.length
    · obtain ⟨b, off, rfl, hb, hc⟩ := HR.out.at_ (k := 4) (fun _ => rfl) (by omega) hlt
      have k0 := hc 0 _ rfl
      have k1 := hc 1 _ rfl
      have k2 := hc 2 _ rfl
      have k3 := hc 3 _ rfl
      rw [Nat.add_zero] at k0
      rw [← HB.out.cell (p := ⟨b, _, none⟩) hb] at k0 k1 k2 k3
      have hz := HB.out.size
      have hbz : b < wr.heap.size := by omega
      have hk0 : (0 : Int) ≤ (k : Int) := Int.natCast_nonneg _
      have hk1 : (k : Int) < (ts.length : Int) := by omega
      obtain ⟨va, vc, rfl⟩ := own_slice HV.out
      have HN := Lib.hid (take_next hlt)
      generalize ts[k]! = x at *
      have HX3 := Lib.hid (HB.out.alloc hz (.cells #[.int .i64 x.kind, .int .i64 x.fr, .int .i64 x.to, .int .i64 x.time] 101))
      have HV3 := Lib.hid (HV.out.alloc (.cells #[.int .i64 x.kind, .int .i64 x.fr, .int .i64 x.to, .int .i64 x.time] 101))
      have HN3 := Lib.hid (heap_new wr (.cells #[.int .i64 x.kind, .int .i64 x.fr, .int .i64 x.to, .int .i64 x.time] 101))
      clear hc HV HB
      go_wp2_with (at_builtin; refine wpList_append_own _ rfl (.tmp 11) (.tmp 16) 36 rfl w.heap.size 101 i0 _ 4 32 Try.underlying36 HI.out HZ0.out HZ1.out HZ2.out rfl (by omega) _ _ _ rfl HV3.out ⟨wr.heap.size, 0, none⟩ 1 1 (tiC x) rfl rfl ?c1 ?c2 ?c3 ?c4 ?c5 ?_)
      case c1 =>
        intro j u hj
        match j, hj with
        | 0, hj => cases hj; exact cell_blk HN3.out rfl
        | 1, hj => cases hj; exact cell_blk HN3.out rfl
        | 2, hj => cases hj; exact cell_blk HN3.out rfl
        | 3, hj => cases hj; exact cell_blk HN3.out rfl
      case c2 => exact one_ti4 _
      case c3 => unfold maxLen; omega
      case c4 => omega
      case c5 => have := HX3.out.size; exact this
      intro v' w4 hown' hgrow _
      have HB4 : Hid (Below w.heap.size w w4) := Lib.hid (HX3.out.grown hgrow HX3.out.size (fun j hj => (HV3.out.lt j hj).1))
      have HV4 : Hid (w4.ownsRow w.heap.size 101 4 v' (k + 1) ((ts.take (k + 1)).flatMap tiC)) := Lib.hid (by
        rw [HN.out, List.flatMap_append]
        have e8 : List.flatMap tiC [x] = tiC x := by simp
        rw [e8]; exact hown')
      clear hown' hgrow HX3 HV3 HN3 HN
      go_wp2_with fail
      go_roundw
      case rel => exact ⟨k + 1, hlt, by go_num, HV4, HB4⟩
      case measure => simp [intOf]; omega
    · obtain rfl : k = ts.length := by omega
      rw [List.take_length] at HV
      go_wp2_with fail
      go_ret
      exact ⟨_, rfl, HV.out, HB.out⟩
set_option maxHeartbeats 1000000 in
theorem neq_rti (x : Ti) (w : World) : (binOp .neq 101 (.agg #[.int .i64 x.kind, .int .i64 x.fr, .int .i64 x.to, .int .i64 x.time]) (.agg #[.int .i64 x.kind, .int .i64 x.fr, .int .i64 x.to, .int .i64 x.time])).run Try.prog w = .ok (.bool false) w := by
  have u0 := Try.underlying3
  have a0 := Try.isAgg3
  have z0 := Try.sizeOf3
  have hS : Try.prog.underlying 101 = some (.struct (Try.prog.fieldsOf 101)) := by kernel_rfl
  have hp : Try.prog.stoodInHeld 101 = false := by kernel_rfl
  rw [run_neq_struct, show (10000 : Nat) = 9999 + 1 from rfl, run_equalIn_agg w 9999 101 _ _ hS hp]
  simp only [Program.fieldsOf, Try.underlying101]
  go_simp
set_option maxRecDepth 100000 in
set_option maxHeartbeats 2000000 in
theorem same4_self (A B : Option Addr) (c d : Nat) (a : List Ti) (w : World) (hr1 : Row w A (a.flatMap tiC)) (hr2 : Row w B (a.flatMap tiC)) (hla : a.length * 32 ≤ 140737488351232) :
    Calls Try.prog 20 #[.slice A a.length c, .slice B a.length d] w fun e w' => e = .returned (.bool true) ∧ Below w.heap.size w w' := by
  have hle1 : ((a.length : Int) != (a.length : Int)) = false := by rw [bne_eq_false_iff_eq]
  have H1 := Lib.hid hr1
  have H2 := Lib.hid hr2
  clear hr1 hr2
  go_enter Try.func20, Try.ntmps20
  go_wp2_with fail
  go_loopw [5] (fun i wr => ∃ k : Nat, k ≤ a.length ∧ i = .int .i64 k ∧ Hid (Below w.heap.size w wr)) (fun i _ => a.length - (intOf i).toNat)
  case atStart => exact ⟨0, Nat.zero_le _, rfl, Lib.hid (Below.refl _ _)⟩
  case round =>
    obtain ⟨k, hk, rfl, hB⟩ := hrel
    by_cases hlt : k < a.length
    · obtain ⟨b1, off1, rfl, hb1, hc1⟩ := H1.out.at_ (k := 4) (fun _ => rfl) (by omega) hlt
      obtain ⟨b2, off2, rfl, hb2, hc2⟩ := H2.out.at_ (k := 4) (fun _ => rfl) (by omega) hlt
      have k1_0 := hc1 0 _ rfl
      rw [Nat.add_zero] at k1_0
      have k1_1 := hc1 1 _ rfl
      have k1_2 := hc1 2 _ rfl
      have k1_3 := hc1 3 _ rfl
      rw [← hB.out.cell (p := ⟨b1, _, none⟩) hb1] at k1_0 k1_1 k1_2 k1_3
      have k2_0 := hc2 0 _ rfl
      rw [Nat.add_zero] at k2_0
      have k2_1 := hc2 1 _ rfl
      have k2_2 := hc2 2 _ rfl
      have k2_3 := hc2 3 _ rfl
      rw [← hB.out.cell (p := ⟨b2, _, none⟩) hb2] at k2_0 k2_1 k2_2 k2_3
      have hk0 : (0 : Int) ≤ (k : Int) := Int.natCast_nonneg _
      have hk1 : (k : Int) < (a.length : Int) := by omega
      have hq := fun W => neq_rti a[k]! W
      clear hc1 hc2
      generalize a[k]! = x at *
      go_wp2_with fail
      go_quiet (fail)
      go_wp2_with fail
      go_roundw
      case rel => exact ⟨k + 1, hlt, by go_num, Lib.hid (below_draws hB.out _)⟩
      case measure => simp [intOf]; omega
    · obtain rfl : k = a.length := by omega
      go_wp2_with fail
      go_ret
      exact ⟨rfl, hB.out⟩
end Go.Proofs.Ytplplkchibefjaa.F4
