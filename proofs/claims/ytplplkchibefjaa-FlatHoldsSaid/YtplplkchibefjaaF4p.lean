/-
  What Make's ties are, plainly; how ties are counted by kinds and events. (No program but for the names.)
-/
import Derived.Test.YtplplkchibefjaaFlN
import Derived.Test.YtplplkchibefjaaFlBk
namespace Go.Proofs.Ytplplkchibefjaa.P4
open Go.RowKit Go.Shelf

/-- A tie between two of n events, of one of the five kinds. -/
def Good (n : Nat) (t : Ti) : Prop := 1 ≤ t.kind ∧ t.kind ≤ 5 ∧ 0 ≤ t.fr ∧ t.fr < (n : Int) ∧ 0 ≤ t.to ∧ t.to < (n : Int)
theorem Good.key {n : Nat} {a b : Ti} (h : tkey a = tkey b) (hb : Good n b) : Good n a := by
  unfold tkey at h
  simp only [Prod.mk.injEq] at h
  unfold Good
  rw [h.1, h.2.1, h.2.2]; exact hb
theorem Good.step {n : Nat} {l l' : List Ti} {t : Ti} (hl : ∀ x ∈ l, Good n x) (ht : Good n t) (h : stepT l t = some l') : ∀ x ∈ l', Good n x := by
  unfold stepT at h
  split at h
  · rename_i hh
    injection h with h
    subst h
    intro x hx
    rcases List.mem_or_eq_of_mem_set hx with h1 | h1
    · exact hl x h1
    · have hlt := atT_lt hh
      have h2 : l[atT l t]! ∈ l := by rw [getElem!_pos l _ hlt]; exact List.getElem_mem _
      rw [h1]
      exact Good.key (b := l[atT l t]!) rfl (hl _ h2)
  · split at h
    · cases h
    · injection h with h
      subst h
      intro x hx
      rcases List.mem_append.1 hx with h1 | h1
      · exact hl x h1
      · rw [List.mem_singleton.1 h1]; exact ht
theorem Good.fold {n : Nat} : ∀ (xs : List Ti) {l l' : List Ti}, (∀ x ∈ l, Good n x) → (∀ x ∈ xs, Good n x) → foldT l xs = some l' → ∀ x ∈ l', Good n x
  | [], l, l', hl, _, h => by rw [foldT] at h; injection h with h; subst h; exact hl
  | t :: r, l, l', hl, hx, h => by
    rw [foldT] at h
    cases hs : stepT l t with
    | none => rw [hs] at h; cases h
    | some l1 =>
      rw [hs] at h
      exact Good.fold r (Good.step hl (hx t (List.mem_cons_self ..)) hs) (fun x hxr => hx x (List.mem_cons_of_mem _ hxr)) h
theorem told_good {g : Gr} (hm : mayL g = true) : ∀ t ∈ toldL g g.rs.length, Good g.es.length t := by
  intro t ht
  rw [toldL, List.take_length] at ht
  obtain ⟨r, hr, h1⟩ := List.mem_flatMap.1 ht
  unfold told1 at h1
  obtain ⟨x, hx, rfl⟩ := List.mem_map.1 h1
  unfold prs at hx
  obtain ⟨a, ha, hx⟩ := List.mem_flatMap.1 hx
  obtain ⟨b, hb, rfl⟩ := List.mem_map.1 hx
  have l1 := memL_lt ha
  have l2 := memL_lt hb
  obtain ⟨i, hi, rfl⟩ := List.getElem_of_mem hr
  have hk := (may_iff.1 hm).2.2.2.1 i hi
  unfold relE at hk
  rw [getElem!_pos g.rs i hi] at hk
  split at hk
  · omega
  · rename_i k1
    split at hk
    · omega
    · rename_i k2
      refine ⟨?_, ?_, ?_, ?_, ?_, ?_⟩
      · show 1 ≤ g.rs[i].kind; omega
      · show g.rs[i].kind ≤ 5; omega
      · show (0 : Int) ≤ (a : Int); omega
      · show (a : Int) < (g.es.length : Int); omega
      · show (0 : Int) ≤ (b : Int); omega
      · show (b : Int) < (g.es.length : Int); omega
theorem make_good {g : Gr} (hm : mayL g = true) {l : List Ti} (h : foldT [] (toldL g g.rs.length) = some l) : ∀ t ∈ l, Good g.es.length t :=
  Good.fold _ (fun x hx => by cases hx) (told_good hm) h

/-! ### counting -/
/-- How many ties come ahead of a kind and an event; p tells a tie's event. -/
def ahead (p : Ti → Int) (K : Int) (I : Nat) (t : Ti) : Bool := decide (t.kind < K) || (decide (t.kind = K) && decide (p t < (I : Int)))
def nOf (p : Ti → Int) (l : List Ti) (K : Int) (I : Nat) : Nat := (l.filter (ahead p K I)).length
theorem len_or (p q : Ti → Bool) : ∀ (l : List Ti), (∀ t ∈ l, p t = true → q t = false) → (l.filter fun t => p t || q t).length = (l.filter p).length + (l.filter q).length
  | [], _ => rfl
  | t :: r, h => by
    have ih := len_or p q r (fun x hx => h x (List.mem_cons_of_mem _ hx))
    have ht := h t (List.mem_cons_self ..)
    cases hp : p t with
    | true =>
      have hq := ht hp
      rw [List.filter_cons_of_pos (by simp [hp]), List.filter_cons_of_pos hp, List.filter_cons_of_neg (by simp [hq]), List.length_cons, List.length_cons, ih]; omega
    | false =>
      cases hq : q t with
      | true => rw [List.filter_cons_of_pos (by simp [hp, hq]), List.filter_cons_of_neg (by simp [hp]), List.filter_cons_of_pos hq, List.length_cons, List.length_cons, ih]; omega
      | false => rw [List.filter_cons_of_neg (by simp [hp, hq]), List.filter_cons_of_neg (by simp [hp]), List.filter_cons_of_neg (by simp [hq]), ih]
theorem n_next (p : Ti → Int) (l : List Ti) (K : Int) (I : Nat) : nOf p l K (I + 1) = nOf p l K I + (l.filter (fun t => t.kind == K && p t == (I : Int))).length := by
  unfold nOf
  rw [← len_or]
  · congr 1
    refine List.filter_congr (fun t _ => ?_)
    rw [Bool.eq_iff_iff]
    simp only [ahead, Bool.or_eq_true, Bool.and_eq_true, decide_eq_true_eq, beq_iff_eq]
    omega
  · intro t _ h
    rw [Bool.eq_false_iff]
    intro h2
    simp only [ahead, Bool.or_eq_true, Bool.and_eq_true, decide_eq_true_eq, beq_iff_eq] at h h2
    omega
theorem n_kind (p : Ti → Int) (l : List Ti) (K : Int) (n : Nat) (h : ∀ t ∈ l, 0 ≤ p t ∧ p t < (n : Int)) : nOf p l (K + 1) 0 = nOf p l K n := by
  unfold nOf
  congr 1
  refine List.filter_congr (fun t ht => ?_)
  have := h t ht
  rw [Bool.eq_iff_iff]
  simp only [ahead, Bool.or_eq_true, Bool.and_eq_true, decide_eq_true_eq]
  omega
theorem n_start (p : Ti → Int) (l : List Ti) (h : ∀ t ∈ l, 1 ≤ t.kind ∧ 0 ≤ p t) : nOf p l 1 0 = 0 := by
  unfold nOf
  rw [List.length_eq_zero_iff, List.filter_eq_nil_iff]
  intro t ht
  have := h t ht
  simp only [ahead, Bool.or_eq_true, Bool.and_eq_true, decide_eq_true_eq]
  omega
theorem n_end (p : Ti → Int) (l : List Ti) (h : ∀ t ∈ l, t.kind ≤ 5) : nOf p l 6 0 = l.length := by
  unfold nOf
  rw [List.filter_eq_self.2]
  intro t ht
  have := h t ht
  simp only [ahead, Bool.or_eq_true, decide_eq_true_eq]
  omega
theorem n_le (p : Ti → Int) (l : List Ti) (K : Int) (I : Nat) : nOf p l K I ≤ l.length := List.length_filter_le _ _
end Go.Proofs.Ytplplkchibefjaa.P4
