/-
  Lists of lists that a call makes; the net the other way round, step by step.
-/
import Derived.Test.YtaagpnepkjkfoaaRiZ
namespace Go.Proofs.Ytaagpnepkjkfoaa.R6
open Go.RowKit Go.Shelf Go.Proofs.Ytaagpnepkjkfoaa.B

/-- A row of rows of ints, each in a block of its own. -/
structure ORv (Bo Bi : Nat) (W : World) (v : Value) (vs : List Value) (ls : List (List Int)) : Prop where
  len : vs.length = ls.length
  out : W.ownsRow Bo 26 1 v ls.length vs
  inn : ∀ i : Nat, i < ls.length → W.ownsRow Bi 3 1 vs[i]! ls[i]!.length (ls[i]!.map (Value.int .i64))
  dis : ∀ i j : Nat, i < ls.length → j < ls.length → i ≠ j → ∀ q, vs[i]!.ownBlock = some q → vs[j]!.ownBlock ≠ some q
def ORows (Bo Bi : Nat) (W : World) (v : Value) (ls : List (List Int)) : Prop := ∃ vs, ORv Bo Bi W v vs ls
theorem own_types {W : World} {B B' e e' z z' n n' : Nat} {v v' : Value} {xs xs' : List Value} (h : W.ownsRow B e z v n xs) (h' : W.ownsRow B' e' z' v' n' xs') (hne : e ≠ e') {q : Nat} (hq : v.ownBlock = some q) : v'.ownBlock ≠ some q := by
  intro hq'
  rcases h.2 with ⟨rfl, _⟩ | ⟨g, cap, cur, rfl, _, hg, _⟩
  · cases hq
  · rcases h'.2 with ⟨rfl, _⟩ | ⟨g', cap', cur', rfl, _, hg', _⟩
    · cases hq'
    · simp only [Value.ownBlock, Option.some.injEq] at hq hq'
      subst hq hq'
      rw [hg] at hg'
      simp only [Option.some.injEq, Obj.cells.injEq] at hg'
      exact hne hg'.2.1
theorem ORv.keep {Bo Bi : Nat} {W W' : World} {v : Value} {vs : List Value} {ls : List (List Int)} (h : ORv Bo Bi W v vs ls) (hk : ∀ q, (v.ownBlock = some q ∨ ∃ i, i < ls.length ∧ vs[i]!.ownBlock = some q) → W'.heap[q]? = W.heap[q]?) : ORv Bo Bi W' v vs ls :=
  ⟨h.len, own_keep h.out (fun q hq => hk q (.inl hq)), fun i hi => own_keep (h.inn i hi) (fun q hq => hk q (.inr ⟨i, hi, hq⟩)), h.dis⟩
theorem ORows.keep {Bo Bi : Nat} {W W' : World} {v : Value} {ls : List (List Int)} (h : ORows Bo Bi W v ls) (hk : ∀ q, (v.ownBlock = some q ∨ Bi ≤ q) → q < W.heap.size → W'.heap[q]? = W.heap[q]?) : ORows Bo Bi W' v ls := by
  obtain ⟨vs, h⟩ := h
  exact ⟨vs, h.keep (fun q hq => by
    rcases hq with hq | ⟨i, hi, hq⟩
    · exact hk q (.inl hq) (own_block h.out hq).2
    · exact hk q (.inr (own_block (h.inn i hi) hq).1) (own_block (h.inn i hi) hq).2)⟩
theorem ORows.below {Bo Bi : Nat} {W W' : World} {v : Value} {ls : List (List Int)} (h : ORows Bo Bi W v ls) (hb : Below W.heap.size W W') : ORows Bo Bi W' v ls := h.keep (fun q _ hq => hb.block q hq)
theorem ORows.own {β : Type} (Bo Bi : Nat) (v : Value) (f : β → List (List Int)) : Own (fun s W => ORows Bo Bi W v (f s)) := fun s X Y row hs hg hr => by
  obtain ⟨vs, h⟩ := hs
  exact ⟨vs, h.len, row_own (β := Unit) _ _ _ _ _ _ () X Y row h.out hg hr, fun i hi => row_own (β := Unit) _ _ _ _ _ _ () X Y row (h.inn i hi) hg hr, h.dis⟩
/-- One row has grown, and is stored back. -/
theorem ORv.put {Bo Bi g n c : Nat} {W W1 : World} {vs : List Value} {ls : List (List Int)} {p a : Nat} {v' : Value} (h : ORv Bo Bi W (.slice (some ⟨g, 0, none⟩) n c) vs ls) (hp : p < ls.length) (hn : n = ls.length)
    (ho : W1.ownsRow Bi 3 1 v' (ls[p]!.length + 1) (ls[p]!.map (Value.int .i64) ++ [iv a])) (hg : W.grownBy W1 vs[p]!.ownBlock) (hat : v'.ownBlock = vs[p]!.ownBlock ∨ ∃ q, v'.ownBlock = some q ∧ W.heap.size ≤ q) :
    ORv Bo Bi (W1.setCell ⟨g, p, none⟩ v') (.slice (some ⟨g, 0, none⟩) n c) (vs.set p v') (ls.set p (ls[p]! ++ [(a : Int)])) := by
  subst hn
  have hgl := (own_block h.out (g := g) rfl).2
  have hty : ∀ i, i < ls.length → ∀ q, vs[i]!.ownBlock = some q → q ≠ g := fun i hi q hq e => own_types (h.inn i hi) h.out (by decide) hq (by rw [e]; rfl)
  have hout1 : W1.ownsRow Bo 26 1 (.slice (some ⟨g, 0, none⟩) ls.length c) ls.length vs := own_keep h.out (fun q hq => by
    simp only [Value.ownBlock, Option.some.injEq] at hq
    subst hq
    exact hg.block g hgl (fun e => hty p hp g e.symm rfl))
  have hst := (hout1.stored p v').1
  have hv'g : v'.ownBlock ≠ some g := fun e => own_types hout1 ho (by decide) (q := g) rfl e
  refine ⟨by simp [h.len], by rw [List.length_set]; exact hst, fun i hi => ?_, fun i j hi hj hij q hq => ?_⟩
  · rw [List.length_set] at hi
    by_cases e : i = p
    · subst e
      rw [set_get (by rw [h.len]; exact hi), if_pos rfl, set_get hi, if_pos rfl, List.length_append, List.length_singleton, List.map_append]
      exact own_keep ho (fun q hq => blk_other (fun e => hv'g (by rw [← e]; exact hq)))
    · rw [set_get (by rw [h.len]; exact hp), if_neg e, set_get hp, if_neg e]
      refine own_keep (h.inn i hi) (fun q hq => ?_)
      have hqg := hty i hi q hq
      exact (blk_other hqg).trans (hg.block q (own_block (h.inn i hi) hq).2 (fun e' => h.dis i p hi hp e q hq e'.symm))
  · rw [List.length_set] at hi hj
    have hvl : p < vs.length := by rw [h.len]; exact hp
    rw [set_get hvl] at hq ⊢
    by_cases ei : i = p
    · subst ei
      rw [if_pos rfl] at hq
      rw [if_neg (fun e => hij e.symm)]
      rcases hat with h' | ⟨q', h', hq'⟩
      · exact h.dis i j hi hj hij q (h'.symm.trans hq)
      · intro e
        rw [hq] at h'; injection h' with h'
        have := (own_block (h.inn j hj) e).2; omega
    · rw [if_neg ei] at hq
      by_cases ej : j = p
      · subst ej
        rw [if_pos rfl]
        rcases hat with h' | ⟨q', h', hq'⟩
        · rw [h']; exact h.dis i j hi hj hij q hq
        · intro e
          rw [e] at h'; injection h' with h'
          have := (own_block (h.inn i hi) hq).2; omega
      · rw [if_neg ej]; exact h.dis i j hi hj hij q hq
/-- An empty row is put behind. -/
theorem ORv.push {Bo Bi n : Nat} {W W1 : World} {v v' : Value} {vs : List Value} {ls : List (List Int)} (h : ORv Bo Bi W v vs ls) (hn : n = ls.length) (ho : W1.ownsRow Bo 26 1 v' (n + 1) (vs ++ [.slice none 0 0])) (hg : W.grownBy W1 v.ownBlock) :
    ORv Bo Bi W1 v' (vs ++ [.slice none 0 0]) (ls ++ [[]]) := by
  subst hn
  have hget : ∀ i : Nat, i < ls.length → (vs ++ [Value.slice none 0 0])[i]! = vs[i]! := fun i hi => by
    rw [getElem!_pos _ i (by rw [List.length_append, h.len]; omega), getElem!_pos vs i (by rw [h.len]; exact hi), List.getElem_append_left (by rw [h.len]; exact hi)]
  have hgl : ∀ i : Nat, i < ls.length → (ls ++ [[]])[i]! = ls[i]! := fun i hi => by
    rw [getElem!_pos _ i (by rw [List.length_append]; omega), getElem!_pos ls i hi, List.getElem_append_left hi]
  have hlast : (vs ++ [Value.slice none 0 0])[ls.length]! = .slice none 0 0 := by
    rw [getElem!_pos _ _ (by rw [List.length_append, h.len]; simp), List.getElem_append_right (by rw [h.len]; exact Nat.le_refl _)]; simp
  have hll : (ls ++ [[]])[ls.length]! = [] := by
    rw [getElem!_pos _ _ (by simp), List.getElem_append_right (Nat.le_refl _)]; simp
  refine ⟨by simp [h.len], by rw [List.length_append]; exact ho, fun i hi => ?_, fun i j hi hj hij q hq => ?_⟩
  · rw [List.length_append, List.length_singleton] at hi
    rcases Nat.lt_or_ge i ls.length with hi' | hi'
    · rw [hget i hi', hgl i hi']
      exact own_keep (h.inn i hi') (fun q hq => hg.block q (own_block (h.inn i hi') hq).2 (fun e => own_types (h.inn i hi') h.out (by decide) hq e.symm))
    · obtain rfl : i = ls.length := by omega
      rw [hlast, hll]; exact World.ownsRow_nil _ _ _ _
  · rw [List.length_append, List.length_singleton] at hi hj
    rcases Nat.lt_or_ge i ls.length with hi' | hi'
    · rw [hget i hi'] at hq
      rcases Nat.lt_or_ge j ls.length with hj' | hj'
      · rw [hget j hj']; exact h.dis i j hi' hj' hij q hq
      · obtain rfl : j = ls.length := by omega
        rw [hlast]; simp [Value.ownBlock]
    · obtain rfl : i = ls.length := by omega
      rw [hlast] at hq; cases hq

/-! ### the other way round, step by step -/
/-- The net the other way round of the first k points, and of some ways of the next. -/
def tuL (n : NetL) (k : Nat) (ws : List Nat) : NetL := (List.range n.length).map fun i => toL n k i ++ (if i ∈ ws then [(k : Int)] else [])
theorem tuL_len (n : NetL) (k : Nat) (ws : List Nat) : (tuL n k ws).length = n.length := by simp [tuL]
theorem tuL_at {n : NetL} {k i : Nat} (ws : List Nat) (hi : i < n.length) : (tuL n k ws)[i]! = toL n k i ++ (if i ∈ ws then [(k : Int)] else []) := by
  rw [getElem!_pos _ i (by rw [tuL_len]; exact hi)]; simp [tuL]
theorem toL_zero (n : NetL) (i : Nat) : toL n 0 i = [] := by simp [toL]
theorem toL_next (n : NetL) (k i : Nat) : toL n (k + 1) i = toL n k i ++ (if i ∈ wy n k then [(k : Int)] else []) := by
  unfold toL
  rw [List.range_succ, List.filter_append, List.map_append]
  congr 1
  by_cases h : i ∈ wy n k
  · rw [if_pos h, List.filter_cons_of_pos (by rw [decide_eq_true h]), List.filter_nil]; rfl
  · rw [if_neg h, List.filter_cons_of_neg (by rw [decide_eq_false h]; decide), List.filter_nil]; rfl
theorem tuL_next (n : NetL) (k : Nat) : tuL n k (wy n k) = tuL n (k + 1) [] := by
  unfold tuL
  refine List.map_congr_left (fun i _ => ?_)
  rw [toL_next]; simp
theorem tuL_all (n : NetL) : tuL n n.length [] = turnL n := by
  unfold tuL turnL
  refine List.map_congr_left (fun i _ => ?_)
  simp
theorem toL_lt {n : NetL} {k i : Nat} {x : Int} (h : x ∈ toL n k i) : x < k := by
  obtain ⟨j, hj, rfl⟩ := List.mem_map.1 h
  have := List.mem_range.1 (List.mem_filter.1 hj).1
  omega
/-- Is the last one of a list this one? -/
def lastB (l : List Int) (k : Nat) : Bool := !l.isEmpty && (l[l.length - 1]! == (k : Int))
theorem lastB_at {n : NetL} {k i : Nat} (ws : List Nat) (hi : i < n.length) : lastB (tuL n k ws)[i]! k = decide (i ∈ ws) := by
  rw [tuL_at ws hi]
  by_cases h : i ∈ ws
  · rw [if_pos h, decide_eq_true h]
    unfold lastB
    have hl : (toL n k i ++ [(k : Int)]).length - 1 = (toL n k i).length := by simp
    rw [hl, getElem!_pos _ _ (by simp), List.getElem_append_right (Nat.le_refl _)]
    simp
  · rw [if_neg h, List.append_nil, decide_eq_false h]
    unfold lastB
    cases hq : (toL n k i).isEmpty with
    | true => rfl
    | false =>
      have hne : toL n k i ≠ [] := by intro e; rw [e] at hq; cases hq
      have hpos : (toL n k i).length - 1 < (toL n k i).length := by have := List.length_pos_iff.2 hne; omega
      have := toL_lt (Go.Proofs.Ytaagpnepkjkfoaa.B.mem_at hpos)
      simp only [Bool.not_false, Bool.true_and, beq_eq_false_iff_ne]
      omega
theorem tuL_yes {n : NetL} {k i : Nat} {ws : List Nat} (hi : i < n.length) (h : lastB (tuL n k ws)[i]! k = true) : tuL n k (ws ++ [i]) = tuL n k ws := by
  rw [lastB_at ws hi] at h
  have hm := of_decide_eq_true h
  unfold tuL
  refine List.map_congr_left (fun j _ => ?_)
  congr 1
  by_cases e : j ∈ ws
  · rw [if_pos e, if_pos (by simp [e])]
  · rw [if_neg e, if_neg (by intro hj; rcases List.mem_append.1 hj with hj | hj; exact e hj; simp at hj; subst hj; exact e hm)]
theorem tuL_no {n : NetL} {k i : Nat} {ws : List Nat} (hi : i < n.length) (h : lastB (tuL n k ws)[i]! k = false) : tuL n k (ws ++ [i]) = (tuL n k ws).set i ((tuL n k ws)[i]! ++ [(k : Int)]) := by
  rw [lastB_at ws hi] at h
  have hm := of_decide_eq_false h
  refine list_ext (by rw [List.length_set, tuL_len, tuL_len]) (fun j hj => ?_)
  rw [tuL_len] at hj
  rw [set_get (by rw [tuL_len]; exact hi), tuL_at _ hj]
  by_cases e : j = i
  · subst e
    rw [if_pos rfl, tuL_at _ hj, if_pos (by simp), if_neg hm, List.append_nil]
  · rw [if_neg e, tuL_at _ hj]
    congr 1
    by_cases e2 : j ∈ ws
    · rw [if_pos e2, if_pos (by simp [e2])]
    · rw [if_neg e2, if_neg (by simp [e2, e])]
theorem toL_len (n : NetL) (k i : Nat) : (toL n k i).length ≤ k := by
  unfold toL
  rw [List.length_map]
  have := List.length_filter_le (fun j => decide (i ∈ wy n j)) (List.range k)
  simpa using this
end Go.Proofs.Ytaagpnepkjkfoaa.R6
