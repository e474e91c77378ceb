/-
  Ages of marks behind what is done, and behind a tick; what no tie names; no program.
-/
import Derived.Test.YtplplkchibefjaaMkQ
namespace Go.Proofs.Ytplplkchibefjaa.M5
open Go.RowKit Go.Shelf Go.Proofs.Ytplplkchibefjaa.B

theorem touchM_age (v : Mk) (t : Ti) : (touchM v t).age = v.age := by
  unfold touchM
  split
  · split <;> rfl
  · split
    · rfl
    · split <;> rfl
theorem touch_age (L : List Mk) (t : Ti) (j : Nat) : (touchL L t)[j]!.age = L[j]!.age := by
  unfold touchL
  split
  · rename_i h
    obtain ⟨q, hq, e⟩ := has_iff.1 h
    rw [e, Int.toNat_natCast]
    by_cases hj : q = j
    · subst hj; rw [set_here hq, touchM_age]
    · rw [set_at hj]
  · rfl
theorem fold_age : ∀ (ts : List Ti) (L : List Mk) (j : Nat), (ts.foldl touchL L)[j]!.age = L[j]!.age
  | [], _, _ => rfl
  | t :: r, L, j => by rw [List.foldl_cons, fold_age r, touch_age]
theorem do_age {ts : List Ti} {l : List Mk} {k : Nat} (hk : k < l.length) (j : Nat) : (doL ts l k)[j]!.age = if j = k then 0 else l[j]!.age := by
  simp only [doL, List.foldl_cons, List.foldl_nil, kindL, fold_age]
  unfold freshL
  by_cases hj : k = j
  · subst hj; rw [set_here hk, if_pos rfl]
  · rw [set_at hj, if_neg (fun e => hj e.symm)]
theorem old_age {v : Mk} : decide (0 ≤ (oldM v).age) = decide (0 ≤ v.age) := by
  unfold oldM
  simp only
  split
  · rename_i h; rw [decide_eq_true h]; simp; omega
  · rfl
theorem map_get {l : List Mk} {j : Nat} (hj : j < l.length) : (l.map oldM)[j]! = oldM l[j]! := by
  rw [getElem!_pos _ j (by simpa using hj), getElem!_pos l j hj, List.getElem_map]
/-- What was done stays done, what never was isn't: 'at_' is the event that was done (below 0: none). -/
def Ages (l l' : List Mk) (at_ : Int) : Prop := ∀ j : Nat, j < l.length → (decide (0 ≤ l'[j]!.age)) = (decide (0 ≤ l[j]!.age) || decide ((j : Int) = at_))
theorem ages_do {ts : List Ti} {l : List Mk} {k : Nat} (hk : k < l.length) : Ages l (doL ts l k) (k : Int) := by
  intro j hj
  rw [do_age hk]
  by_cases e : j = k
  · subst e; simp
  · rw [if_neg e]; simp; omega
theorem ages_tick (l : List Mk) : Ages l (l.map oldM) (-1) := by
  intro j hj
  rw [map_get hj, old_age]
  have : decide ((j : Int) = -1) = false := by simp; try omega
  rw [this, Bool.or_false]

/-! ### what no tie names -/
def namesB (k : Nat) (j : Nat) (t : Ti) : Bool := decide (t.fr = (k : Int)) && decide (2 ≤ t.kind) && decide (t.kind ≤ 4) && decide (t.to = (j : Int))
theorem touch_far {L : List Mk} {t : Ti} {j : Nat} (h : t.to ≠ (j : Int)) : (touchL L t)[j]! = L[j]! := by
  unfold touchL
  split
  · rename_i h2
    obtain ⟨q, hq, e⟩ := has_iff.1 h2
    rw [e, Int.toNat_natCast, set_at (by intro e2; subst e2; exact h e)]
  · rfl
theorem fold_far : ∀ (ts : List Ti) (L : List Mk) (j : Nat), (∀ t ∈ ts, t.to ≠ (j : Int)) → (ts.foldl touchL L)[j]! = L[j]!
  | [], _, _, _ => rfl
  | t :: r, L, j, h => by rw [List.foldl_cons, fold_far r _ j (fun x hx => h x (List.mem_cons_of_mem _ hx)), touch_far (h t (List.mem_cons_self ..))]
theorem kind_far {ts : List Ti} {k j : Nat} (h : ts.any (namesB k j) = false) {kd : Int} (hk : 2 ≤ kd ∧ kd ≤ 4) (L : List Mk) : (kindL ts k L kd)[j]! = L[j]! := by
  unfold kindL
  refine fold_far _ _ _ (fun t ht => ?_)
  obtain ⟨h1, h2⟩ := List.mem_filter.1 ht
  unfold outB at h2
  simp only [Bool.and_eq_true, beq_iff_eq] at h2
  rw [List.any_eq_false] at h
  have h3 := h t h1
  intro e
  apply h3
  unfold namesB
  simp only [Bool.and_eq_true, decide_eq_true_eq]
  omega
theorem do_far {ts : List Ti} {l : List Mk} {k j : Nat} (hj : j ≠ k) (h : ts.any (namesB k j) = false) : (doL ts l k)[j]! = l[j]! := by
  simp only [doL, List.foldl_cons, List.foldl_nil]
  rw [kind_far h (by omega), kind_far h (by omega), kind_far h (by omega)]
  unfold freshL
  exact set_at (fun e => hj e.symm)
end Go.Proofs.Ytplplkchibefjaa.M5
