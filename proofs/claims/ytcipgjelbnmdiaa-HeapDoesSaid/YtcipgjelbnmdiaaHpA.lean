/-
  Package heap, plainly: items, which of two comes first, a list sifted.
-/
import Derived.Test.YtcipgjelbnmdiaaBas
namespace Go.Proofs.Ytcipgjelbnmdiaa.HP
open Go.RowKit Go.Shelf Go.Proofs.Ytcipgjelbnmdiaa.B

/-- An item. -/
structure It where
  id : Int
  base : Int
  since : Int
deriving DecidableEq
instance : Inhabited It := ⟨⟨0, 0, 0⟩⟩
def itC (x : It) : List Value := [.int .i64 x.id, .int .i64 x.base, .int .i64 x.since]
/-- Its weight at the moment 0. -/
def wt (s : Int) (x : It) : Int := x.base * s - x.since
/-- Does one come ahead of another? -/
def ahB (s : Int) (x y : It) : Bool := decide (wt s y < wt s x ∨ (wt s x = wt s y ∧ x.id < y.id))
def le (s : Int) (x y : It) : Prop := ahB s y x = false
theorem le_iff {s : Int} {x y : It} : le s x y ↔ (wt s y < wt s x ∨ (wt s x = wt s y ∧ x.id ≤ y.id)) := by
  unfold le ahB
  rw [decide_eq_false_iff_not]
  omega
theorem ah_iff {s : Int} {x y : It} : ahB s x y = true ↔ (wt s y < wt s x ∨ (wt s x = wt s y ∧ x.id < y.id)) := by
  unfold ahB
  rw [decide_eq_true_eq]
theorem le_refl (s : Int) (x : It) : le s x x := le_iff.2 (.inr ⟨rfl, Int.le_refl _⟩)
theorem le_trans {s : Int} {x y z : It} (h1 : le s x y) (h2 : le s y z) : le s x z := by
  rw [le_iff] at h1 h2 ⊢
  omega
theorem le_of_ah {s : Int} {x y : It} (h : ahB s x y = true) : le s x y := by
  rw [ah_iff] at h
  rw [le_iff]
  omega
theorem le_anti {s : Int} {x y : It} (h1 : le s x y) (h2 : le s y x) : x.id = y.id := by
  rw [le_iff] at h1 h2
  omega
/-- Two exchanged. -/
def sw (L : List It) (i j : Nat) : List It := (L.set i L[j]!).set j L[i]!
theorem sw_len (L : List It) (i j : Nat) : (sw L i j).length = L.length := by unfold sw; rw [List.length_set, List.length_set]
theorem sw_at {L : List It} {i j : Nat} (hi : i < L.length) (hj : j < L.length) (k : Nat) : (sw L i j)[k]! = if k = j then L[i]! else if k = i then L[j]! else L[k]! := by
  unfold sw
  by_cases h1 : k = j
  · subst h1; rw [if_pos rfl, set_here (by rw [List.length_set]; exact hj)]
  · rw [if_neg h1, set_at (Ne.symm h1)]
    by_cases h2 : k = i
    · subst h2; rw [if_pos rfl, set_here hi]
    · rw [if_neg h2, set_at (Ne.symm h2)]
theorem sw_perm {L : List It} {i j : Nat} (hi : i < L.length) (hj : j < L.length) : (sw L i j).Perm L := by
  unfold sw
  rw [getElem!_pos L i hi, getElem!_pos L j hj]
  exact List.set_set_perm hi hj

/-- In order, but for what is at one place. -/
def EX (s : Int) (L : List It) (a : Nat) : Prop :=
  (∀ j, 0 < j → j < L.length → j ≠ a → (j - 1) / 2 ≠ a → le s L[(j - 1) / 2]! L[j]!) ∧ (0 < a → ∀ j, 0 < j → j < L.length → (j - 1) / 2 = a → le s L[(a - 1) / 2]! L[j]!)
/-- In order, but for those under a place. -/
def DN (s : Int) (L : List It) (a : Nat) : Prop :=
  (∀ j, 0 < j → j < L.length → (j - 1) / 2 ≠ a → le s L[(j - 1) / 2]! L[j]!) ∧ (0 < a → ∀ j, 0 < j → j < L.length → (j - 1) / 2 = a → le s L[(a - 1) / 2]! L[j]!)
/-- In order. -/
def HO (s : Int) (L : List It) : Prop := ∀ j, 0 < j → j < L.length → le s L[(j - 1) / 2]! L[j]!

theorem up_step {s : Int} {L : List It} {a p : Nat} (h : EX s L a) (ha : 0 < a) (hl : a < L.length) (hp : p = (a - 1) / 2) : EX s (sw L a p) p := by
  have hpl : p < L.length := by omega
  have hpa : p < a := by omega
  obtain ⟨h1, h2⟩ := h
  constructor
  · intro j j0 jl jp jq
    rw [sw_len] at jl
    rw [sw_at hl hpl, sw_at hl hpl, if_neg jp, if_neg jq]
    have hja : j ≠ a := fun e => jq (by rw [e, hp])
    rw [if_neg hja]
    by_cases e : (j - 1) / 2 = a
    · rw [if_pos e]
      have := h2 ha j j0 jl e
      rw [← hp] at this
      exact this
    · rw [if_neg e]
      exact h1 j j0 jl hja e
  · intro p0 j j0 jl jp
    rw [sw_len] at jl
    have hq := h1 p p0 hpl (by omega) (by omega)
    rw [sw_at hl hpl, sw_at hl hpl, if_neg (by omega : ¬ (p - 1) / 2 = p), if_neg (by omega : ¬ (p - 1) / 2 = a), if_neg (by omega : ¬ j = p)]
    by_cases e : j = a
    · rw [if_pos e]; exact hq
    · rw [if_neg e]
      have h3 := h1 j j0 jl e (by omega)
      rw [jp] at h3
      exact le_trans hq h3
theorem up_stop {s : Int} {L : List It} {a p : Nat} (h : EX s L a) (hp : p = (a - 1) / 2) (hh : a = 0 ∨ ahB s L[a]! L[p]! = false) : DN s L a := by
  refine ⟨fun j j0 jl jq => ?_, h.2⟩
  by_cases e : j = a
  · subst e
    rcases hh with hh | hh
    · omega
    · rw [← hp]; exact hh
  · exact h.1 j j0 jl e jq
theorem down_step {s : Int} {L : List It} {a f : Nat} (h : DN s L a) (hf0 : 0 < f) (hfl : f < L.length) (hfa : (f - 1) / 2 = a) (hah : ahB s L[f]! L[a]! = true) (hb : ∀ j, 0 < j → j < L.length → (j - 1) / 2 = a → le s L[f]! L[j]!) : DN s (sw L a f) f := by
  have hal : a < L.length := by omega
  obtain ⟨h1, h2⟩ := h
  constructor
  · intro j j0 jl jq
    rw [sw_len] at jl
    rw [sw_at hal hfl, sw_at hal hfl, if_neg jq]
    by_cases e : (j - 1) / 2 = a
    · rw [if_pos e]
      by_cases e2 : j = f
      · rw [if_pos e2]; exact le_of_ah hah
      · rw [if_neg e2, if_neg (by omega : ¬ j = a)]; exact hb j j0 jl e
    · rw [if_neg e, if_neg (fun e2 : j = f => e (by rw [e2]; exact hfa))]
      by_cases e3 : j = a
      · rw [if_pos e3]
        subst e3
        exact h2 j0 f hf0 hfl hfa
      · rw [if_neg e3]; exact h1 j j0 jl e
  · intro _ j j0 jl jp
    rw [sw_len] at jl
    rw [hfa, sw_at hal hfl, sw_at hal hfl, if_neg (by omega : ¬ a = f), if_pos rfl, if_neg (by omega : ¬ j = f), if_neg (by omega : ¬ j = a)]
    have := h1 j j0 jl (by omega)
    rw [jp] at this
    exact this
theorem down_stop {s : Int} {L : List It} {a : Nat} (h : DN s L a) (hb : ∀ j, 0 < j → j < L.length → (j - 1) / 2 = a → le s L[a]! L[j]!) : HO s L := by
  intro j j0 jl
  by_cases e : (j - 1) / 2 = a
  · have := hb j j0 jl e
    rw [e]; exact this
  · exact h.1 j j0 jl e
/-- What is put last is sifted. -/
theorem put_ex {s : Int} {L : List It} (h : HO s L) (x : It) : EX s (L ++ [x]) L.length := by
  have hat : ∀ k, k < L.length → (L ++ [x])[k]! = L[k]! := fun k hk => by rw [getElem!_pos (L ++ [x]) k (by simp; omega), getElem!_pos L k hk, List.getElem_append_left hk]
  constructor
  · intro j j0 jl jn _
    rw [List.length_append, List.length_singleton] at jl
    rw [hat j (by omega), hat _ (by omega)]
    exact h j j0 (by omega)
  · intro _ j j0 jl jp
    rw [List.length_append, List.length_singleton] at jl
    omega
/-- What comes to a place whose item is taken is sifted. -/
theorem take_ex {s : Int} {L : List It} {a n : Nat} (h : HO s L) (hn : L.length = n + 1) (ha : a < n) : EX s ((sw L a n).take n) a := by
  have hat : ∀ k, k < n → ((sw L a n).take n)[k]! = if k = a then L[n]! else L[k]! := fun k hk => by
    have hl : k < ((sw L a n).take n).length := by rw [List.length_take, sw_len]; omega
    rw [getElem!_pos _ k hl, List.getElem_take, ← getElem!_pos (sw L a n) k (by rw [sw_len]; omega), sw_at (by omega) (by omega), if_neg (by omega)]
  have hlen : ((sw L a n).take n).length = n := by rw [List.length_take, sw_len]; omega
  constructor
  · intro j j0 jl ja jq
    rw [hlen] at jl
    rw [hat j jl, hat _ (by omega), if_neg ja, if_neg jq]
    exact h j j0 (by omega)
  · intro a0 j j0 jl jp
    rw [hlen] at jl
    rw [hat j jl, hat _ (by omega), if_neg (by omega), if_neg (by omega)]
    have h1 := h a a0 (by omega)
    have h2 := h j j0 (by omega)
    rw [jp] at h2
    exact le_trans h1 h2
theorem take_last {s : Int} {L : List It} {n : Nat} (h : HO s L) (hn : L.length = n + 1) : HO s ((sw L n n).take n) := by
  have hat : ∀ k, k < n → ((sw L n n).take n)[k]! = L[k]! := fun k hk => by
    have hl : k < ((sw L n n).take n).length := by rw [List.length_take, sw_len]; omega
    rw [getElem!_pos _ k hl, List.getElem_take, ← getElem!_pos (sw L n n) k (by rw [sw_len]; omega), sw_at (by omega) (by omega), if_neg (by omega), if_neg (by omega)]
  have hlen : ((sw L n n).take n).length = n := by rw [List.length_take, sw_len]; omega
  intro j j0 jl
  rw [hlen] at jl
  rw [hat j jl, hat _ (by omega)]
  exact h j j0 (by omega)
/-- The first is ahead of all. -/
theorem head_le {s : Int} {L : List It} (h : HO s L) : ∀ (n j : Nat), j ≤ n → j < L.length → le s L[0]! L[j]!
  | 0, j, hj, hl => by have e : j = 0 := (by omega); subst e; exact le_refl _ _
  | n + 1, j, hj, hl => by
    by_cases e : j = 0
    · subst e; exact le_refl _ _
    · exact le_trans (head_le h n ((j - 1) / 2) (by omega) (by omega)) (h j (by omega) hl)

/-! ### sifted, plainly -/
/-- The best of a place and those under it (of those that were seen: k of two). -/
def best (s : Int) (L : List It) (a : Nat) : Nat → Nat
  | 0 => a
  | k + 1 => if 2 * a + 1 + k < L.length ∧ ahB s L[2 * a + 1 + k]! L[best s L a k]! = true then 2 * a + 1 + k else best s L a k
theorem best_lt {s : Int} {L : List It} {a : Nat} (ha : a < L.length) : ∀ k : Nat, best s L a k < L.length
  | 0 => ha
  | k + 1 => by
    unfold best
    split
    · rename_i h; exact h.1
    · exact best_lt ha k
theorem best_le {s : Int} {L : List It} {a : Nat} : ∀ k : Nat, le s L[best s L a k]! L[a]! ∧ ∀ i, i < k → 2 * a + 1 + i < L.length → le s L[best s L a k]! L[2 * a + 1 + i]!
  | 0 => ⟨le_refl _ _, fun i hi => by omega⟩
  | k + 1 => by
    obtain ⟨h1, h2⟩ := best_le (s := s) (L := L) (a := a) k
    unfold best
    split
    · rename_i h
      have h3 := le_of_ah h.2
      refine ⟨le_trans h3 h1, fun i hi hl => ?_⟩
      by_cases e : i = k
      · subst e; exact le_refl _ _
      · exact le_trans h3 (h2 i (by omega) hl)
    · rename_i h
      refine ⟨h1, fun i hi hl => ?_⟩
      by_cases e : i = k
      · subst e
        unfold le
        cases hb : ahB s L[2 * a + 1 + i]! L[best s L a i]! with
        | false => rfl
        | true => exact absurd ⟨hl, hb⟩ h
      · exact h2 i (by omega) hl
theorem best_is {s : Int} {L : List It} {a : Nat} : ∀ k : Nat, best s L a k = a ∨ (∃ i, i < k ∧ best s L a k = 2 * a + 1 + i ∧ ahB s L[best s L a k]! L[a]! = true)
  | 0 => .inl rfl
  | k + 1 => by
    unfold best
    split
    · rename_i h
      right
      refine ⟨k, by omega, rfl, ?_⟩
      have h1 := (best_le (s := s) (L := L) (a := a) k).1
      have h2 := h.2
      rw [le_iff] at h1
      rw [ah_iff] at h2 ⊢
      omega
    · rcases best_is (s := s) (L := L) (a := a) k with h | ⟨i, h1, h2, h3⟩
      · exact .inl h
      · exact .inr ⟨i, by omega, h2, h3⟩
theorem best_stop {s : Int} {L : List It} {a : Nat} (h : DN s L a) (he : best s L a 2 = a) : HO s L :=
  down_stop h (fun j j0 jl jp => by
    have h1 := (best_le (s := s) (L := L) (a := a) 2).2
    rw [he] at h1
    have : j = 2 * a + 1 + 0 ∨ j = 2 * a + 1 + 1 := by omega
    rcases this with e | e
    · rw [e]; exact h1 0 (by omega) (by omega)
    · rw [e]; exact h1 1 (by omega) (by omega))
theorem best_step {s : Int} {L : List It} {a : Nat} (h : DN s L a) (ha : a < L.length) (he : best s L a 2 ≠ a) : DN s (sw L a (best s L a 2)) (best s L a 2) ∧ a < best s L a 2 ∧ best s L a 2 < L.length := by
  have hl := best_lt (s := s) ha 2
  rcases best_is (s := s) (L := L) (a := a) 2 with h1 | ⟨i, h1, h2, h3⟩
  · exact absurd h1 he
  · have hb := (best_le (s := s) (L := L) (a := a) 2).2
    refine ⟨down_step h (by omega) hl (by omega) h3 (fun j j0 jl jp => ?_), by omega, hl⟩
    have : j = 2 * a + 1 + 0 ∨ j = 2 * a + 1 + 1 := by omega
    rcases this with e | e
    · rw [e]; exact hb 0 (by omega) (by omega)
    · rw [e]; exact hb 1 (by omega) (by omega)
end Go.Proofs.Ytcipgjelbnmdiaa.HP
