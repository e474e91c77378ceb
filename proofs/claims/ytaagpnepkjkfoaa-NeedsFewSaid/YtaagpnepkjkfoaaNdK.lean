/-
  Maps that are sets: a key stands, or it doesn't.
-/
import Derived.Test.YtaagpnepkjkfoaaRoM
import Derived.Maps.RangeWalk
import Derived.Lib.SlKeysI
namespace Go.Proofs.Ytaagpnepkjkfoaa.N7
open Go.RowKit Go.Shelf Go.Proofs.Ytaagpnepkjkfoaa.B Go.Proofs.Ytaagpnepkjkfoaa.R6

/-- The value of each key of a set. -/
noncomputable def Ru (v : Value) : Option (DataW Unit × List MemPlace) := @ite _ (v = .agg #[]) (Classical.propDecidable _) (some (.lit (.bool true), [])) none
theorem Ru_unit : Ru (.agg #[]) = some (.lit (.bool true), []) := by unfold Ru; rw [if_pos rfl]
theorem Ru_inv {v : Value} {y : DataW Unit × List MemPlace} (h : Ru v = some y) : v = .agg #[] := by
  unfold Ru at h
  by_cases e : v = .agg #[]
  · exact e
  · rw [if_neg e] at h; cases h
/-- Block b is a map that holds just these keys (c puts at most). -/
def MS (T : TypeId) (w : World) (b c : Nat) (S : Lit → Prop) : Prop :=
  ∃ D : DataW Unit, w.ownsMap Try.prog T Ru b c D ∧ ∀ l, Maps.has D l = true ↔ S l
section
variable {T : TypeId} {w w' : World} {b c d : Nat} {S S' : Lit → Prop}
theorem MS.made (T : TypeId) (w : World) : MS T (w.alloc (.map #[] 0)) w.heap.size 0 (fun _ => False) := ⟨.map [], World.ownsMap_made w _ _ _, fun _ => ⟨fun h => (by cases h), fun h => False.elim h⟩⟩
theorem MS.lt (h : MS T w b c S) : b < w.heap.size := by obtain ⟨D, h, _⟩ := h; exact h.lt
theorem MS.block (h : MS T w b c S) (hb : w'.heap[b]? = w.heap[b]?) : MS T w' b c S := by
  obtain ⟨D, ⟨es, clock, h1, h2⟩, h3⟩ := h
  exact ⟨D, ⟨es, clock, hb.trans h1, h2⟩, h3⟩
theorem MS.below (h : MS T w b c S) (hb : Below w.heap.size w w') : MS T w' b c S := h.block (hb.block b h.lt)
theorem MS.kept {row : Option Nat} (h : MS T w b c S) (hg : w.grownBy w' row) (hne : some b ≠ row) : MS T w' b c S := by
  obtain ⟨D, h1, h2⟩ := h
  exact ⟨D, h1.kept hg hne, h2⟩
theorem MS.mono (h : MS T w b c S) (hc : c ≤ d) : MS T w b d S := by obtain ⟨D, h, hf⟩ := h; exact ⟨D, h.mono hc, hf⟩
theorem MS.congr (h : MS T w b c S) (e : ∀ l, S l ↔ S' l) : MS T w b c S' := by obtain ⟨D, h, hf⟩ := h; exact ⟨D, h, fun l => (hf l).trans (e l)⟩
theorem MS.put {t e : TypeId} (K : Maps.Keyed Try.prog T) (ht : Try.prog.underlying t = some (.map T e)) (h : MS T w b c S) (hc : c < maxLen) {key : Value} {kl : Lit} (hk : keyOf Try.prog T key = some kl) :
    ∃ w1, (Instr.mapUpdate t (.map (some b)) key (.agg #[])).run Try.prog w = .ok () w1 ∧ MS T w1 b (c + 1) (fun l => S l ∨ l = kl) ∧ w.grownBy w1 (some b) := by
  obtain ⟨D, h, hf⟩ := h
  obtain ⟨w1, h1, h2, h3⟩ := h.update K ht hc hk Ru_unit
  refine ⟨w1, h1, ⟨_, h2, fun l => ?_⟩, h3⟩
  by_cases e : l = kl
  · subst e
    rw [Maps.has_put_same h.isMap (K.key hk)]
    exact ⟨fun _ => .inr rfl, fun _ => rfl⟩
  · rw [Maps.has_put_other e, hf]
    exact ⟨.inl, fun h => h.resolve_right e⟩
end
/-- The points of a set. -/
def IL (N : Nat) (S : Nat → Bool) (l : Lit) : Prop := ∃ i, i < N ∧ S i = true ∧ l = litI i
def inL (N : Nat) (S : Nat → Bool) : List Int := ((List.range N).filter S).map fun j : Nat => (j : Int)
theorem inL_len (N : Nat) (S : Nat → Bool) : (inL N S).length ≤ N := by
  unfold inL
  rw [List.length_map]
  have := List.length_filter_le S (List.range N)
  rwa [List.length_range] at this
theorem inL_congr {N : Nat} {S S' : Nat → Bool} (e : ∀ i, i < N → S i = S' i) : inL N S = inL N S' := by
  unfold inL; rw [List.filter_congr (fun i hi => e i (List.mem_range.1 hi))]
theorem inL_mem {N : Nat} {S : Nat → Bool} {x : Int} : x ∈ inL N S ↔ ∃ i : Nat, i < N ∧ S i = true ∧ x = (i : Int) := by
  unfold inL
  rw [List.mem_map]
  constructor
  · rintro ⟨i, hi, rfl⟩
    obtain ⟨h1, h2⟩ := List.mem_filter.1 hi
    exact ⟨i, List.mem_range.1 h1, h2, rfl⟩
  · rintro ⟨i, h1, h2, rfl⟩
    exact ⟨i, List.mem_filter.2 ⟨List.mem_range.2 h1, h2⟩, rfl⟩
theorem inL_up (N : Nat) (S : Nat → Bool) : (inL N S).Pairwise (· < ·) := by
  unfold inL
  rw [List.pairwise_map]
  exact ((List.pairwise_lt_range).filter _).imp (fun h => by omega)
theorem inL_sorted (N : Nat) (S : Nat → Bool) : (inL N S).mergeSort leI = inL N S := by
  refine List.Perm.eq_of_pairwise (le := fun a b => leI a b = true) (fun a b _ _ h1 h2 => ?_) (List.pairwise_mergeSort ?_ ?_ _) ((inL_up N S).imp (fun h => by simp only [leI, decide_eq_true_eq]; omega)) (List.mergeSort_perm _ _)
  · simp only [leI, decide_eq_true_eq] at h1 h2; omega
  · intro a b c h1 h2; simp only [leI, decide_eq_true_eq] at *; omega
  · intro a b; simp only [leI, Bool.or_eq_true, decide_eq_true_eq]; omega
theorem MS.keys {w : World} {b c N : Nat} {S : Nat → Bool} (h : MS 3 w b c (IL N S)) : ∃ D : DataW Unit, w.ownsMap Try.prog 3 Ru b c D ∧ (inL N S).Perm (intKeys D) ∧ Maps.size D ≤ N := by
  obtain ⟨D, h, hf⟩ := h
  obtain ⟨es, hD, hpw, _⟩ := h.entries lawI
  obtain ⟨es', hD', hko⟩ := h.keysOf
  obtain rfl : es = es' := by rw [hD] at hD'; simpa using hD'
  subst hD
  have hp : (inL N S).Perm (intKeys (.map es)) := perm_intKeys hpw (fun p hp => by obtain ⟨v, hv⟩ := hko p hp; obtain ⟨x, _, hx, _⟩ := Maps.keyOf_i64 Try.underlying3 hv; exact ⟨x, hx⟩)
    ((inL_up N S).imp (fun h => by omega)) (fun x => by
      rw [hf, inL_mem]
      constructor
      · rintro ⟨i, h1, h2, rfl⟩; exact ⟨i, h1, h2, rfl⟩
      · rintro ⟨i, h1, h2, e⟩
        refine ⟨i, h1, h2, ?_⟩
        simp only [litI, Lit.int.injEq, true_and] at e; exact e)
  refine ⟨_, h, hp, ?_⟩
  have h1 := hp.length_eq
  have h2 := inL_len N S
  have h3 : (intKeys (.map es : DataW Unit)).length = es.length := List.length_map _
  show es.length ≤ N
  omega
theorem keys_sorted {N : Nat} {S : Nat → Bool} {D : DataW Unit} {ss : List Int} (h : (inL N S).Perm (intKeys D)) (hs : ss.Perm (intKeys D)) : ss.mergeSort (fun x y => decide (x ≤ y)) = inL N S :=
  (mergeSort_of_perm_i (hs.trans h.symm)).trans (inL_sorted N S)
end Go.Proofs.Ytaagpnepkjkfoaa.N7
