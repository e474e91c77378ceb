/-
  Beginnings of a graph that may be, may be.
-/
import Derived.Test.YtandfjahfbeaiaaGreatGrRo
namespace Go.Proofs.YtandfjahfbeaiaaGreat
open Go.RowKit Go.Shelf

theorem ahead_take {α : Type} [BEq α] [LawfulBEq α] (l : List α) (k : α) (i : Nat) (hi : i ≤ l.length) : aheadB l k i = (l.take i).contains k := by
  rw [aheadB, Bool.eq_iff_iff, decide_eq_true_eq, List.contains_iff_mem]
  constructor
  · intro h
    have h1 : l.idxOf k < l.length := by omega
    have h2 := List.getElem_idxOf h1
    rw [← h2]
    have h3 : l.idxOf k < (l.take i).length := by rw [List.length_take]; omega
    have h4 : (l.take i)[l.idxOf k] = l[l.idxOf k] := List.getElem_take
    rw [← h4]; exact List.getElem_mem h3
  · intro h
    obtain ⟨j, hj, he⟩ := List.getElem_of_mem h
    rw [List.length_take] at hj
    rw [List.getElem_take] at he
    have h1 : l.idxOf k ≤ j := by
      rcases Nat.lt_or_ge j (l.idxOf k) with h2 | h2
      · exact absurd he (by have := List.not_of_lt_findIdx (p := (· == k)) (xs := l) h2; simpa using this)
      · exact h2
    omega
theorem ahead_prefix {α : Type} [BEq α] [LawfulBEq α] (l : List α) (k : α) {i a : Nat} (hi : i ≤ a) (ha : a ≤ l.length) : aheadB (l.take a) k i = aheadB l k i := by
  rw [ahead_take l k i (by omega), ahead_take (l.take a) k i (by rw [List.length_take]; omega), List.take_take, Nat.min_eq_left hi]
theorem has_prefix {α : Type} [BEq α] [LawfulBEq α] (l : List α) (k : α) {i a : Nat} (hi : i ≤ a) (ha : a ≤ l.length) (h : aheadB l k i = true) : hasB (l.take a) k = true := by
  rw [ahead_take l k i (by omega), List.contains_iff_mem] at h
  rw [hasB, List.contains_iff_mem]
  obtain ⟨j, hj, rfl⟩ := List.getElem_of_mem h
  rw [List.length_take] at hj
  rw [List.getElem_take]
  have : (l.take a)[j]'(by rw [List.length_take]; omega) = l[j] := List.getElem_take
  rw [← this]; exact List.getElem_mem _
theorem at_prefix {α : Type} [Inhabited α] (l : List α) {i a : Nat} (hi : i < a) (ha : a ≤ l.length) : (l.take a)[i]! = l[i]! := by
  rw [getElem!_pos _ i (by rw [List.length_take]; omega), getElem!_pos l i (by omega), List.getElem_take]
theorem tellS_none {s : St} {part n : Nat} {f : Nat → Nat} (h : ∀ i, i < n → f i = 0) : tellS s part f n = s := by
  unfold tellS
  rw [tellL_none.2 h]
  by_cases h0 : s.2.2 = 0
  · rw [if_pos h0]
  · rw [if_neg h0]
theorem may_check {g : Gr} (h : mayL g = true) : checkL g = (0, 0, 0) := by
  obtain ⟨h0, h1, h2, h3, h4⟩ := may_iff.1 h
  rw [checkL, tellS_none h4, tellS_none h3, tellS_none h2, tellS_none h1, tellS_none (fun _ _ => h0)]
theorem may_limit {g : Gr} (h : FewG g) : limitE g = 0 := by
  unfold limitE
  have e : g.us.any (fun u => decide (8 < u.roles.length)) = false := by
    rw [List.any_eq_false]; intro u hu; have := h.ro u hu; simp; omega
  rw [if_neg (by have := h.gs; omega), if_neg (by have := h.es; omega), if_neg (by have := h.rs; omega), if_neg (by have := h.us; omega), e, if_neg (by decide)]
/-- The first groups alone. -/
theorem may_groups {g c : Gr} {a : Nat} (h : mayL g = true) (ha : a ≤ g.gs.length) (h1 : c.gs = g.gs.take a) (h2 : c.es = []) (h3 : c.rs = []) (h4 : c.us = []) : mayL c = true := by
  have hf := may_few h
  have hc : c.gs.length = a := by rw [h1, List.length_take]; omega
  refine may_iff.2 ⟨may_limit ⟨by rw [hc]; have := hf.gs; omega, by rw [h2]; decide, by rw [h3]; decide, by rw [h4]; decide, by rw [h4]; simp⟩, fun i hi => ?_, by rw [h2]; simp, by rw [h3]; simp, by rw [h4]; simp⟩
  rw [hc] at hi
  have hg := (may_iff.1 h).2.1 i (by omega)
  have e1 : c.gs[i]! = g.gs[i]! := by rw [h1]; exact at_prefix _ hi ha
  have hl : (gns g).length = g.gs.length := by simp [gns]
  have e2 : gns c = (gns g).take a := by rw [gns, h1, List.map_take]; rfl
  obtain ⟨m1, m2, m3⟩ := may_group h (i := i) (by omega)
  rw [groupE, e1, e2, if_pos m1, ahead_prefix _ _ (by omega) (by omega), m2, if_neg (by decide), ahead_prefix _ _ (by omega) (by omega)]
  rcases m3 with m3 | m3
  · rw [if_pos m3]
  · rw [Bool.and_eq_true] at m3
    by_cases h5 : (g.gs[i]!.parent.toList == []) = true
    · rw [if_pos h5]
    · rw [if_neg h5, has_prefix _ _ (Nat.le_of_lt hi) (by omega) m3.2, m3.2]; rfl
/-- All groups, the first events, the first relations alone. -/
theorem may_begin {g c : Gr} {b d : Nat} (h : mayL g = true) (hb : b ≤ g.es.length) (hd : d ≤ g.rs.length) (hbd : d = 0 ∨ b = g.es.length) (h1 : c.gs = g.gs) (h2 : c.es = g.es.take b) (h3 : c.rs = g.rs.take d) (h4 : c.us = []) : mayL c = true := by
  have hf := may_few h
  obtain ⟨_, k1, k2, k3, _⟩ := may_iff.1 h
  have hcb : c.es.length = b := by rw [h2, List.length_take]; omega
  have hcd : c.rs.length = d := by rw [h3, List.length_take]; omega
  have eg : gns c = gns g := by rw [gns, h1]; rfl
  have ee : ens c = (ens g).take b := by rw [ens, h2, List.map_take]; rfl
  have er : rks c = (rks g).take d := by rw [rks, h3, List.map_take]; rfl
  have hl1 : (ens g).length = g.es.length := by simp [ens]
  have hl2 : (rks g).length = g.rs.length := by simp [rks]
  refine may_iff.2 ⟨may_limit ⟨by rw [h1]; exact hf.gs, by rw [hcb]; have := hf.es; omega, by rw [hcd]; have := hf.rs; omega, by rw [h4]; decide, by rw [h4]; simp⟩, fun i hi => ?_, fun i hi => ?_, fun i hi => ?_, by rw [h4]; simp⟩
  · rw [h1] at hi
    have := k1 i hi
    rw [groupE] at this ⊢
    rw [eg, h1]; exact this
  · rw [hcb] at hi
    have := k2 i (by omega)
    rw [eventE] at this ⊢
    rw [eg, ee, show c.es[i]! = g.es[i]! from by rw [h2]; exact at_prefix _ hi hb, ahead_prefix _ _ (by omega) (by omega)]
    exact this
  · rw [hcd] at hi
    have hbe : b = g.es.length := by rcases hbd with e | e <;> omega
    have := k3 i (by omega)
    have et : ∀ s, thereB c s = thereB g s := fun s => by
      rw [thereB, thereB, eg, ee, hbe, ← hl1, List.take_length]
    rw [relE] at this ⊢
    rw [er, show c.rs[i]! = g.rs[i]! from by rw [h3]; exact at_prefix _ hi hd, ahead_prefix _ _ (by omega) (by omega), et, et]
    exact this
end Go.Proofs.YtandfjahfbeaiaaGreat
