/-
  The rings, plainly: points gathered by their heads, and what the other way round does; no program.
-/
import Derived.Test.YtaagpnepkjkfoaaRiT
namespace Go.Proofs.Ytaagpnepkjkfoaa.R6

/-- Points gathered: the first of each head, and with it all of the same head. -/
def firstB (H : List Int) (i : Nat) : Bool := decide (∀ j, j < i → H[j]! ≠ H[i]!)
def ringOf (H : List Int) (k i : Nat) : List Nat := (List.range k).filter fun j => decide (H[j]! = H[i]!)
def gatherL (H : List Int) (k : Nat) : List (List Nat) := ((List.range k).filter (firstB H)).map (ringOf H k)
def ringsL (n : NetL) : List (List Nat) := gatherL (headL n) n.length
/-- How many first ones there are ahead of k. -/
def cntF (H : List Int) (k : Nat) : Nat := ((List.range k).filter (firstB H)).length
/-- Where a head's ring stands, from 1 on; 0: not told yet. -/
def placeB (H : List Int) (k : Nat) (z : Int) : Nat := match ((List.range k).filter (firstB H)).findIdx? (fun i => decide (H[i]! = z)) with | some p => p + 1 | none => 0

theorem gather_len (H : List Int) (k : Nat) : (gatherL H k).length = cntF H k := by simp [gatherL, cntF]
theorem filt_next (H : List Int) (k : Nat) : (List.range (k + 1)).filter (firstB H) = (List.range k).filter (firstB H) ++ (if firstB H k then [k] else []) := by
  rw [List.range_succ, List.filter_append]
  cases h : firstB H k <;> simp [h]
theorem ring_next (H : List Int) (k i : Nat) : ringOf H (k + 1) i = ringOf H k i ++ (if H[k]! = H[i]! then [k] else []) := by
  unfold ringOf
  rw [List.range_succ, List.filter_append]
  congr 1
  by_cases h : H[k]! = H[i]!
  · rw [if_pos h, List.filter_cons_of_pos (by rw [decide_eq_true h]), List.filter_nil]
  · rw [if_neg h, List.filter_cons_of_neg (by rw [decide_eq_false h]; decide), List.filter_nil]
theorem firsts_mem {H : List Int} {k i : Nat} : i ∈ (List.range k).filter (firstB H) ↔ i < k ∧ ∀ j, j < i → H[j]! ≠ H[i]! := by
  rw [List.mem_filter, List.mem_range]; simp [firstB]
/-- Each head has a first one. -/
theorem has_first (H : List Int) : ∀ (k i : Nat), i < k → ∃ f, f ≤ i ∧ f ∈ (List.range k).filter (firstB H) ∧ H[f]! = H[i]!
  | k, i, hi => by
    by_cases h : firstB H i = true
    · exact ⟨i, Nat.le_refl _, by rw [List.mem_filter, List.mem_range]; exact ⟨hi, h⟩, rfl⟩
    · have : ∃ j, j < i ∧ H[j]! = H[i]! := by
        apply Classical.byContradiction
        intro hno
        apply h
        simp only [firstB, decide_eq_true_eq]
        exact fun j hj he => hno ⟨j, hj, he⟩
      obtain ⟨j, hj, he⟩ := this
      obtain ⟨f, h1, h2, h3⟩ := has_first H k j (by omega)
      exact ⟨f, by omega, h2, h3.trans he⟩
termination_by _ i => i
theorem first_uniq {H : List Int} {k f g : Nat} (hf : f ∈ (List.range k).filter (firstB H)) (hg : g ∈ (List.range k).filter (firstB H)) (h : H[f]! = H[g]!) : f = g := by
  have h1 := (firsts_mem.1 hf).2
  have h2 := (firsts_mem.1 hg).2
  rcases Nat.lt_trichotomy f g with h' | h' | h'
  · exact absurd h (h2 f h')
  · exact h'
  · exact absurd h.symm (h1 g h')
theorem place_none {H : List Int} {k : Nat} {z : Int} (h : ∀ i, i < k → H[i]! ≠ z) : placeB H k z = 0 := by
  unfold placeB
  have : ((List.range k).filter (firstB H)).findIdx? (fun i => decide (H[i]! = z)) = none := by
    rw [List.findIdx?_eq_none_iff]
    intro i hi
    simpa using h i (firsts_mem.1 hi).1
  rw [this]
theorem place_some {H : List Int} {k i : Nat} (hi : i < k) : ∃ p f, placeB H k H[i]! = p + 1 ∧ p < cntF H k ∧ ((List.range k).filter (firstB H))[p]? = some f ∧ H[f]! = H[i]! := by
  obtain ⟨f, _, hf, he⟩ := has_first H k i hi
  unfold placeB cntF
  cases hq : ((List.range k).filter (firstB H)).findIdx? (fun j => decide (H[j]! = H[i]!)) with
  | none =>
    rw [List.findIdx?_eq_none_iff] at hq
    have := hq f hf
    simp at this
    exact absurd he (by simpa using this)
  | some p =>
    obtain ⟨hp, h1, _⟩ := List.findIdx?_eq_some_iff_getElem.1 hq
    exact ⟨p, _, rfl, hp, List.getElem?_eq_getElem hp, by simpa using h1⟩
theorem place_zero {H : List Int} {k : Nat} {z : Int} : placeB H k z = 0 ↔ ∀ i, i < k → H[i]! ≠ z := by
  constructor
  · intro h i hi e
    subst e
    obtain ⟨p, f, h1, _⟩ := place_some (H := H) hi
    omega
  · exact place_none
/-- A point of a new head. -/
theorem place_new {H : List Int} {k : Nat} (h : placeB H k H[k]! = 0) : firstB H k = true ∧ gatherL H (k + 1) = gatherL H k ++ [[k]] ∧ cntF H (k + 1) = cntF H k + 1 := by
  have h0 := place_zero.1 h
  have hf : firstB H k = true := by simp only [firstB, decide_eq_true_eq]; exact h0
  refine ⟨hf, ?_, ?_⟩
  · unfold gatherL
    rw [filt_next, hf, if_pos rfl, List.map_append]
    congr 1
    · refine List.map_congr_left (fun i hi => ?_)
      rw [ring_next, if_neg (fun e => h0 i (firsts_mem.1 hi).1 e.symm), List.append_nil]
    · have : ringOf H k k = [] := by
        unfold ringOf
        rw [List.filter_eq_nil_iff]
        intro j hj
        simpa using h0 j (List.mem_range.1 hj)
      simp [ring_next, this]
  · unfold cntF; rw [filt_next, hf, if_pos rfl, List.length_append]; rfl
/-- A point of a head that is told already. -/
theorem place_old {H : List Int} {k p : Nat} (h : placeB H k H[k]! = p + 1) : firstB H k = false ∧ p < (gatherL H k).length ∧ gatherL H (k + 1) = (gatherL H k).set p ((gatherL H k)[p]! ++ [k]) ∧ cntF H (k + 1) = cntF H k := by
  have hex : ∃ i, i < k ∧ H[i]! = H[k]! := by
    apply Classical.byContradiction
    intro hno
    have := place_none (H := H) (k := k) (z := H[k]!) (fun i hi e => hno ⟨i, hi, e⟩)
    omega
  obtain ⟨i, hi, he⟩ := hex
  have hf : firstB H k = false := by
    cases hq : firstB H k with
    | false => rfl
    | true => simp only [firstB, decide_eq_true_eq] at hq; exact absurd he (hq i hi)
  obtain ⟨p', f, h1, h2, h3, h4⟩ := place_some (H := H) hi
  rw [he, h] at h1
  obtain rfl : p = p' := by omega
  have hF : (List.range (k + 1)).filter (firstB H) = (List.range k).filter (firstB H) := by rw [filt_next, hf]; simp
  have hlen := gather_len H k
  have hp : p < (gatherL H k).length := by omega
  refine ⟨hf, hp, ?_, by unfold cntF; rw [hF]⟩
  refine List.ext_getElem? (fun j => ?_)
  rw [List.getElem?_set]
  unfold gatherL at hp ⊢
  rw [hF, List.getElem?_map]
  cases hj : ((List.range k).filter (firstB H))[j]? with
  | none =>
    have hjl : ¬ j < ((List.range k).filter (firstB H)).length := by
      intro hlt; rw [List.getElem?_eq_getElem hlt] at hj; cases hj
    split
    · rename_i e; subst e; rw [List.length_map] at hp; exact absurd hp hjl
    · rw [List.getElem?_map, hj]; rfl
  | some g =>
    have hg : g ∈ (List.range k).filter (firstB H) := List.mem_iff_getElem?.2 ⟨j, hj⟩
    have hfm : f ∈ (List.range k).filter (firstB H) := List.mem_iff_getElem?.2 ⟨p, h3⟩
    split
    · rename_i e; subst e
      obtain rfl : g = f := by rw [h3] at hj; injection hj with hj; exact hj.symm
      rw [getElem!_pos _ p hp, List.getElem_map]
      have hget : ((List.range k).filter (firstB H))[p]'(by simpa using hp) = g := by
        have := List.getElem?_eq_getElem (l := (List.range k).filter (firstB H)) (i := p) (by simpa using hp)
        rw [h3] at this; injection this with this; exact this.symm
      rw [hget, Option.map_some, ring_next, if_pos (by rw [h4, he])]
    · rename_i e
      rw [List.getElem?_map, hj, Option.map_some, Option.map_some, ring_next, if_neg, List.append_nil]
      intro heq
      have : g = f := first_uniq hg hfm (by rw [← heq, h4, he])
      subst this
      apply e
      have hpl : p < ((List.range k).filter (firstB H)).length := by simpa using hp
      have hjl : j < ((List.range k).filter (firstB H)).length := by
        rcases Nat.lt_or_ge j ((List.range k).filter (firstB H)).length with h' | h'
        · exact h'
        · rw [List.getElem?_eq_none h'] at hj; cases hj
      have hnd : ((List.range k).filter (firstB H)).Nodup := List.nodup_range.filter _
      rw [List.getElem?_eq_getElem hpl] at h3
      rw [List.getElem?_eq_getElem hjl] at hj
      injection h3 with h3
      injection hj with hj
      exact (List.getElem_inj hnd).1 (h3.trans hj.symm)
/-- The place of each head, one point on. -/
theorem place_step {H : List Int} {k : Nat} (z : Int) : placeB H (k + 1) z = if placeB H k H[k]! = 0 ∧ z = H[k]! then cntF H k + 1 else placeB H k z := by
  by_cases hn : placeB H k H[k]! = 0
  · have hf := (place_new hn).1
    have h0 := place_zero.1 hn
    by_cases hz : z = H[k]!
    · rw [if_pos ⟨hn, hz⟩, hz]
      unfold placeB cntF
      rw [filt_next, hf, if_pos rfl, List.findIdx?_append]
      have : ((List.range k).filter (firstB H)).findIdx? (fun i => decide (H[i]! = H[k]!)) = none := by
        rw [List.findIdx?_eq_none_iff]
        intro i hi
        simpa using h0 i (firsts_mem.1 hi).1
      rw [this]; simp
    · rw [if_neg (fun h => hz h.2)]
      unfold placeB
      rw [filt_next, hf, if_pos rfl, List.findIdx?_append]
      have : ([k] : List Nat).findIdx? (fun i => decide (H[i]! = z)) = none := by
        rw [List.findIdx?_eq_none_iff]; intro i hi
        obtain rfl : i = k := by simpa using hi
        exact decide_eq_false (fun e => hz e.symm)
      rw [this]
      cases ((List.range k).filter (firstB H)).findIdx? (fun i => decide (H[i]! = z)) <;> rfl
  · rw [if_neg (fun h => hn h.1)]
    obtain ⟨p, hp⟩ : ∃ p, placeB H k H[k]! = p + 1 := ⟨placeB H k H[k]! - 1, by omega⟩
    have hf := (place_old hp).1
    unfold placeB
    rw [filt_next, hf]; simp
end Go.Proofs.Ytaagpnepkjkfoaa.R6
