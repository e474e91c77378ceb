/-
  Rings part the points: of each point the place of its ring, as the law RingParts finds it; plain.
-/
import Derived.Test.YtmklhhkbpaochaaRoM
namespace Go.Proofs.Ytmklhhkbpaochaa.R6
open Go.RowKit Go.Shelf Go.Proofs.Ytmklhhkbpaochaa.B

/-- The first points of the rings, in their order. -/
def firstL (n : NetL) : List Nat := (List.range n.length).filter (firstB (headL n))
theorem first_nodup (n : NetL) : (firstL n).Nodup := List.Pairwise.filter _ List.nodup_range
theorem rings_first (n : NetL) : ringsL n = (firstL n).map (ringOf (headL n) n.length) := rfl
/-- Of a point the place of its ring, from 1 on, behind r rings and some points of the next; 0: none yet. -/
def ofB (n : NetL) (r : Nat) (ks : List Nat) (x : Nat) : Nat :=
  if x ∈ ks then r + 1 else match ((firstL n).take r).findIdx? (fun f => decide ((headL n)[f]! = (headL n)[x]!)) with | some p => p + 1 | none => 0
def ofL (n : NetL) (r : Nat) (ks : List Nat) : List Nat := (List.range n.length).map (ofB n r ks)
theorem ofL_len (n : NetL) (r : Nat) (ks : List Nat) : (ofL n r ks).length = n.length := by simp [ofL]
theorem ofL_at {n : NetL} {r : Nat} {ks : List Nat} {x : Nat} (hx : x < n.length) : (ofL n r ks)[x]! = ofB n r ks x := by
  rw [getElem!_pos _ x (by rw [ofL_len]; exact hx)]; simp [ofL]
theorem ofL_zero (n : NetL) : ofL n 0 [] = List.replicate n.length 0 := by
  refine list_ext (by rw [ofL_len]; simp) (fun i hi => ?_)
  rw [ofL_len] at hi
  rw [ofL_at hi, getElem!_pos _ i (by simpa using hi)]
  simp [ofB]
theorem ofL_put {n : NetL} {r x : Nat} {ks : List Nat} (hx : x < n.length) : ofL n r (ks ++ [x]) = (ofL n r ks).set x (r + 1) := by
  refine list_ext (by rw [List.length_set, ofL_len, ofL_len]) (fun i hi => ?_)
  rw [ofL_len] at hi
  rw [ofL_at hi, set_get (by rw [ofL_len]; exact hx), ofL_at hi]
  unfold ofB
  by_cases e : i = x
  · subst e; rw [if_pos rfl, if_pos (by simp)]
  · rw [if_neg e]
    by_cases h : i ∈ ks
    · rw [if_pos h, if_pos (by simp [h])]
    · rw [if_neg h, if_neg (by simp [h, e])]
theorem ring_mem {n : NetL} {f x : Nat} : x ∈ ringOf (headL n) n.length f ↔ x < n.length ∧ (headL n)[x]! = (headL n)[f]! := by
  unfold ringOf
  rw [List.mem_filter, List.mem_range, decide_eq_true_eq]
theorem first_in {n : NetL} {f : Nat} (h : f ∈ firstL n) : f ∈ ringOf (headL n) n.length f := ring_mem.2 ⟨(firsts_mem.1 h).1, rfl⟩
/-- No earlier ring has this one's head. -/
theorem first_none {n : NetL} {r x : Nat} (hr : r < (firstL n).length) (hx : (headL n)[x]! = (headL n)[(firstL n)[r]!]!) : ((firstL n).take r).findIdx? (fun f => decide ((headL n)[f]! = (headL n)[x]!)) = none := by
  rw [List.findIdx?_eq_none_iff]
  intro f hf
  rw [decide_eq_false_iff_not, hx]
  intro e
  have h1 : f ∈ firstL n := List.mem_of_mem_take hf
  have h2 : (firstL n)[r]! ∈ firstL n := Go.Proofs.Ytmklhhkbpaochaa.B.mem_at hr
  have h3 : f = (firstL n)[r]! := first_uniq h1 h2 e
  obtain ⟨i, hi, ei⟩ := List.getElem_of_mem hf
  rw [List.length_take] at hi
  rw [List.getElem_take, h3, getElem!_pos _ r hr] at ei
  exact List.pairwise_iff_getElem.1 (first_nodup n) i r (by omega) hr (by omega) ei
theorem ofB_fresh {n : NetL} {r x : Nat} {ks : List Nat} (hr : r < (firstL n).length) (hx : (headL n)[x]! = (headL n)[(firstL n)[r]!]!) (hk : x ∉ ks) : ofB n r ks x = 0 := by
  unfold ofB
  rw [if_neg hk, first_none hr hx]
theorem ofL_ring {n : NetL} {r : Nat} (hr : r < (firstL n).length) : ofL n r (ringOf (headL n) n.length (firstL n)[r]!) = ofL n (r + 1) [] := by
  unfold ofL
  refine List.map_congr_left (fun x hx => ?_)
  have hx := List.mem_range.1 hx
  unfold ofB
  rw [if_neg (by simp : x ∉ ([] : List Nat))]
  have ht : (firstL n).take (r + 1) = (firstL n).take r ++ [(firstL n)[r]!] := by rw [List.take_succ_eq_append_getElem hr, getElem!_pos _ r hr]
  have hlt : ((firstL n).take r).length = r := by rw [List.length_take]; omega
  rw [ht, List.findIdx?_append]
  by_cases e : (headL n)[x]! = (headL n)[(firstL n)[r]!]!
  · rw [if_pos (ring_mem.2 ⟨hx, e⟩), first_none hr e, hlt]
    simp [e]
  · rw [if_neg (fun h => e (ring_mem.1 h).2)]
    have h1 : ([(firstL n)[r]!] : List Nat).findIdx? (fun f => decide ((headL n)[f]! = (headL n)[x]!)) = none := by
      rw [List.findIdx?_eq_none_iff]
      intro f hf
      simp only [List.mem_singleton] at hf
      subst hf
      exact decide_eq_false (fun h => e h.symm)
    rw [h1]
    cases ((firstL n).take r).findIdx? (fun f => decide ((headL n)[f]! = (headL n)[x]!)) <;> simp
theorem ofB_end {n : NetL} (x : Nat) : ofB n (firstL n).length [] x = placeB (headL n) n.length (headL n)[x]! := by
  unfold ofB placeB
  rw [if_neg (by simp), List.take_length]
  rfl
theorem ofB_pos {n : NetL} {x : Nat} (hx : x < n.length) : ofB n (firstL n).length [] x ≠ 0 := by
  rw [ofB_end]
  obtain ⟨p, f, h, _⟩ := place_some (H := headL n) hx
  omega
theorem ofB_same {n : NetL} {x y : Nat} (hx : x < n.length) (hy : y < n.length) : ofB n (firstL n).length [] x = ofB n (firstL n).length [] y ↔ x = y ∨ (Ld n x y ∧ Ld n y x) := by
  rw [ofB_end, ofB_end, ← head_same hx hy]
  constructor
  · intro h
    obtain ⟨p, f, h1, _, h3, h4⟩ := place_some (H := headL n) hx
    obtain ⟨q, g, g1, _, g3, g4⟩ := place_some (H := headL n) hy
    have e : p = q := by omega
    subst e
    rw [h3] at g3
    injection g3 with g3
    rw [← h4, ← g4, g3]
  · intro h; rw [h]
theorem ofB_le {n : NetL} (r : Nat) (ks : List Nat) (x : Nat) : ofB n r ks x ≤ r + 1 := by
  unfold ofB
  split
  · exact Nat.le_refl _
  · cases h : ((firstL n).take r).findIdx? (fun f => decide ((headL n)[f]! = (headL n)[x]!)) with
    | none => exact Nat.zero_le _
    | some p =>
      have hp := List.findIdx?_eq_some_iff_findIdx_eq.1 h
      have := hp.1
      rw [List.length_take] at this
      show p + 1 ≤ r + 1
      omega
end Go.Proofs.Ytmklhhkbpaochaa.R6
