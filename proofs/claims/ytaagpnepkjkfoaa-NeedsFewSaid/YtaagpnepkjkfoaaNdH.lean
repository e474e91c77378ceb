/-
  What matters, plainly: it holds what may be called for, what blocks it, and what it calls for; with a tie more it is no less.
-/
import Derived.Test.YtaagpnepkjkfoaaNdA
namespace Go.Proofs.Ytaagpnepkjkfoaa.N7
open Go.RowKit Go.Shelf Go.Proofs.Ytaagpnepkjkfoaa.B Go.Proofs.Ytaagpnepkjkfoaa.R6

/-- The net of needs, and one point more that leads to all that may be called for. -/
def wholeN (es : List Ev) (ts : List Ti) : NetL := netL es.length (needS es.length ts) ++ [inL es.length (pendS es ts)]
def matL (es : List Ev) (ts : List Ti) : List Nat := reachL (wholeN es ts) es.length
theorem wholeN_len (es : List Ev) (ts : List Ti) : (wholeN es ts).length = es.length + 1 := by simp [wholeN, netL_len]
theorem whole_last (es : List Ev) (ts : List Ti) : (wholeN es ts)[es.length]! = inL es.length (pendS es ts) := by
  rw [getElem!_pos _ _ (by rw [wholeN_len]; omega)]
  unfold wholeN
  rw [List.getElem_append_right (by rw [netL_len]; exact Nat.le_refl _)]; simp [netL_len]
theorem whole_at {es : List Ev} {ts : List Ti} {a : Nat} (ha : a < es.length) : (wholeN es ts)[a]! = inL es.length (needS es.length ts a) := by
  rw [getElem!_pos _ _ (by rw [wholeN_len]; omega)]
  unfold wholeN
  rw [List.getElem_append_left (by rw [netL_len]; exact ha), ← getElem!_pos _ a (by rw [netL_len]; exact ha), netL_at ha]
theorem mat_is (es : List Ev) (ts : List Ti) : reachN (netL es.length (needS es.length ts) ++ [inL es.length (pendS es ts)]) (es.length : Int) = (matL es ts).map fun j : Nat => (j : Int) := by
  show reachN (wholeN es ts) _ = _
  unfold reachN reachI matL
  rw [if_pos (by unfold hasI; rw [wholeN_len, decide_eq_true (Int.natCast_nonneg _), decide_eq_true (by omega)]; rfl), Int.toNat_natCast]
theorem mat_mem {es : List Ev} {ts : List Ti} {j : Nat} : j ∈ matL es ts ↔ Ld (wholeN es ts) es.length j := reach_mem (by rw [wholeN_len]; omega)
theorem wy_last {es : List Ev} {ts : List Ti} {j : Nat} : j ∈ wy (wholeN es ts) es.length ↔ j < es.length ∧ pendS es ts j = true := by
  rw [wy_mem, whole_last, inL_mem, wholeN_len]
  constructor
  · rintro ⟨⟨i, h1, h2, h3⟩, _⟩
    obtain rfl : j = i := by omega
    exact ⟨h1, h2⟩
  · rintro ⟨h1, h2⟩; exact ⟨⟨j, h1, h2, rfl⟩, by omega⟩
theorem wy_at {es : List Ev} {ts : List Ti} {a j : Nat} (ha : a < es.length) : j ∈ wy (wholeN es ts) a ↔ j < es.length ∧ needS es.length ts a j = true := by
  rw [wy_mem, whole_at ha, inL_mem, wholeN_len]
  constructor
  · rintro ⟨⟨i, h1, h2, h3⟩, _⟩
    obtain rfl : j = i := by omega
    exact ⟨h1, h2⟩
  · rintro ⟨h1, h2⟩; exact ⟨⟨j, h1, h2, rfl⟩, by omega⟩
theorem mat_called {es : List Ev} {ts : List Ti} {j : Nat} (hj : j < es.length) (h : pendS es ts j = true) : j ∈ matL es ts := mat_mem.2 (.one (wy_last.2 ⟨hj, h⟩))
theorem blk_need {N a j : Nat} {ts : List Ti} (h : blkS N ts (a : Int) j = true) : a < N ∧ needS N ts a j = true := by
  unfold blkS gB at h
  rw [List.any_eq_true] at h
  obtain ⟨t, ht, h⟩ := h
  simp only [Bool.and_eq_true, beq_iff_eq] at h
  obtain ⟨⟨⟨h1, h2⟩, h3⟩, h4⟩ := h
  have h5 := btw_to t h3
  refine ⟨by omega, ?_⟩
  unfold needS gW
  rw [Bool.or_eq_true, List.any_eq_true]
  exact .inl ⟨t, ht, by simp only [Bool.and_eq_true, beq_iff_eq]; exact ⟨⟨h1, h3⟩, h2, h4⟩⟩
theorem cl_need {N a j : Nat} {ts : List Ti} (h : clS N ts (a : Int) j = true) : a < N ∧ needS N ts a j = true := by
  unfold clS gB at h
  rw [List.any_eq_true] at h
  obtain ⟨t, ht, h⟩ := h
  simp only [Bool.and_eq_true, beq_iff_eq] at h
  obtain ⟨⟨⟨h1, h2⟩, h3⟩, h4⟩ := h
  have h5 := btw_fr t h3
  refine ⟨by omega, ?_⟩
  unfold needS gW
  rw [Bool.or_eq_true, List.any_eq_true, List.any_eq_true]
  exact .inr ⟨t, ht, by simp only [Bool.and_eq_true, beq_iff_eq]; exact ⟨⟨h1, h3⟩, h2, h4⟩⟩
theorem mat_need {es : List Ev} {ts : List Ti} {a j : Nat} (h : a ∈ matL es ts) (ha : a < es.length) (hj : j < es.length) (hn : needS es.length ts a j = true) : j ∈ matL es ts := mat_mem.2 ((mat_mem.1 h).snoc ((wy_at ha).2 ⟨hj, hn⟩))
/-- What blocks what matters, and what it calls for, matters. -/
theorem mat_holds {es : List Ev} {ts : List Ti} {a : Nat} (h : a ∈ matL es ts) {x : Int} (hx : x ∈ inL es.length (blkS es.length ts (a : Int)) ++ inL es.length (clS es.length ts (a : Int))) : ∃ j : Nat, j ≤ es.length ∧ x = (j : Int) ∧ j ∈ matL es ts := by
  rcases List.mem_append.1 hx with hx | hx
  · obtain ⟨j, h1, h2, h3⟩ := inL_mem.1 hx
    obtain ⟨h4, h5⟩ := blk_need h2
    exact ⟨j, by omega, h3, mat_need h h4 h1 h5⟩
  · obtain ⟨j, h1, h2, h3⟩ := inL_mem.1 hx
    obtain ⟨h4, h5⟩ := cl_need h2
    exact ⟨j, by omega, h3, mat_need h h4 h1 h5⟩
theorem mat_lt {es : List Ev} {ts : List Ti} {j : Nat} (h : j ∈ matL es ts) : j < es.length + 1 := by
  have := (mat_mem.1 h).lt
  rwa [wholeN_len] at this
theorem mat_len (es : List Ev) (ts : List Ti) : (matL es ts).length ≤ es.length + 1 := by
  unfold matL reachL
  have := List.length_filter_le (fun j => (ledL (wholeN es ts) es.length)[j]!) (List.range (wholeN es ts).length)
  simpa [wholeN_len] using this
theorem mat_cnt (es : List Ev) (ts : List Ti) : cntS (fun j => (matL es ts).contains j) (es.length + 1) = (matL es ts).length := by
  unfold cntS
  congr 1
  show _ = reachL (wholeN es ts) es.length
  unfold reachL
  rw [wholeN_len]
  refine List.filter_congr (fun j hj => ?_)
  rw [Bool.eq_iff_iff, List.contains_iff_mem]
  show j ∈ reachL (wholeN es ts) es.length ↔ _
  unfold reachL
  rw [List.mem_filter, wholeN_len]
  exact ⟨fun h => h.2, fun h => ⟨hj, h⟩⟩
theorem nsBlock {w w' : World} {b c N : Nat} {S : Nat → Bool} (h : NS w b c N S) (hb : w'.heap[b]? = w.heap[b]?) : NS w' b c N S := by
  obtain ⟨D, ⟨es, clock, h1, h2⟩, h3⟩ := h
  exact ⟨D, ⟨es, clock, hb.trans h1, h2⟩, h3⟩
theorem nsFar {w : World} {B e z n b c N : Nat} {v : Value} {xs : List Value} {S : Nat → Bool} (h : w.ownsRow B e z v n xs) (hm : NS w b c N S) : v.ownBlock ≠ some b := by
  intro hb
  obtain ⟨D, ⟨es, clock, hh, _⟩, _⟩ := hm
  rcases h.2 with ⟨rfl, _⟩ | ⟨g, cap, cur, rfl, _, hg, _⟩
  · cases hb
  · cases hb; rw [hh] at hg; cases hg
end Go.Proofs.Ytaagpnepkjkfoaa.N7
