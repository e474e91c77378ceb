/-
  Plainly: what pdqsort's loop keeps.
-/
import Derived.Test.YtcipgjelbnmdiaaHqF
import Derived.Test.YtcipgjelbnmdiaaHqG
namespace Go.Proofs.Ytcipgjelbnmdiaa.HP
open Go.RowKit Go.Shelf Go.Proofs.Ytcipgjelbnmdiaa.B

/-- What is still to do: let the part from x to y be put in order, and all from a to b is. -/
def Td (s : Int) (L : List It) (a b x y : Nat) : Prop := ∀ L', Sw x y L L' → So s L' x y → So s L' a b
theorem Td.start {s : Int} {L : List It} {a b : Nat} : Td s L a b a b := fun _ _ h => h
theorem Td.sw {s : Int} {L L2 : List It} {a b x y : Nat} (h : Td s L a b x y) (hs : Sw x y L L2) : Td s L2 a b x y := fun L' h1 h2 => h L' (hs.trans h1) h2
/-- The one that was held ahead: those up to m are it, those from m on behind it. -/
theorem eq_next {s : Int} {L4 L5 : List It} {a b x y m p : Nat} (ht : Td s L4 a b x y) (hp : Pd s L4 x y) (h0 : 0 < x) (hle : le s L4[p]! L4[x - 1]!) (hs : Sw x y L4 L5) (hv : L5[x]! = L4[p]!) (hxm : x < m) (_hmy : m ≤ y) (hyl : y ≤ L4.length)
    (h1 : ∀ q, x < q → q < m → Fe s L5[q]! L5[x]! = true) (h2 : ∀ q, m ≤ q → q < y → Fe s L5[q]! L5[x]! = false) : Td s L5 a b m y ∧ Pd s L5 m y := by
  have hp5 := hp.sw hs
  have epr : L5[x - 1]! = L4[x - 1]! := hs.out _ (by omega)
  have lo : ∀ q, x ≤ q → q < m → le s L5[q]! L5[x]! := fun q q1 q2 => by
    by_cases e : q = x
    · rw [e]; exact le_refl _ _
    · have := h1 q (by omega) q2
      unfold Fe at this
      show ahB s L5[x]! L5[q]! = false
      cases h : ahB s L5[x]! L5[q]! with
      | false => rfl
      | true => rw [h] at this; cases this
  have hi : ∀ q, m ≤ q → q < y → le s L5[x]! L5[q]! := fun q q1 q2 => by
    have := h2 q q1 q2
    unfold Fe at this
    refine le_of_ah ?_
    cases h : ahB s L5[x]! L5[q]! with
    | true => rfl
    | false => rw [h] at this; cases this
  have up : ∀ q, x ≤ q → q < y → le s L5[x]! L5[q]! := fun q q1 q2 => by
    have h3 := hp5 h0 q q1 q2
    rw [epr] at h3
    rw [hv]
    exact le_trans hle h3
  constructor
  · intro L' g1 g2
    refine ht L' (hs.trans (g1.mono (by omega) (Nat.le_refl _) (by rw [hs.len]; exact hyl))) (fun q r q1 q2 q3 => ?_)
    by_cases c1 : r < m
    · rw [g1.out q (by omega), g1.out r (by omega)]
      exact le_trans (lo q q1 (by omega)) (up r (by omega) q3)
    · by_cases c2 : q < m
      · rw [g1.out q (by omega)]
        obtain ⟨k, k1, k2, k3⟩ := g1.inn r (by omega) q3
        rw [k3]
        exact le_trans (lo q q1 c2) (hi k k1 k2)
      · exact g2 q r (by omega) q2 q3
  · intro _ q q1 q2
    exact le_trans (lo (m - 1) (by omega) (by omega)) (hi q q1 q2)
/-- Two parts in order, and what stands between them. -/
theorem so_parts {s : Int} {L5 L' : List It} {x m y : Nat} (h1 : ∀ q, x ≤ q → q < m → le s L5[q]! L5[m]!) (h2 : ∀ q, m < q → q < y → le s L5[m]! L5[q]!)
    (hA : ∀ k, x ≤ k → k < m → ∃ j, x ≤ j ∧ j < m ∧ L'[k]! = L5[j]!) (hM : L'[m]! = L5[m]!) (hB : ∀ k, m < k → k < y → ∃ j, m < j ∧ j < y ∧ L'[k]! = L5[j]!) (s1 : So s L' x m) (s2 : So s L' (m + 1) y) : So s L' x y := by
  have lo : ∀ k, x ≤ k → k < m → le s L'[k]! L5[m]! := fun k k1 k2 => by
    obtain ⟨j, j1, j2, j3⟩ := hA k k1 k2
    rw [j3]; exact h1 j j1 j2
  have hi : ∀ k, m < k → k < y → le s L5[m]! L'[k]! := fun k k1 k2 => by
    obtain ⟨j, j1, j2, j3⟩ := hB k k1 k2
    rw [j3]; exact h2 j j1 j2
  intro q r q1 q2 q3
  by_cases c1 : r < m
  · exact s1 q r q1 q2 c1
  · by_cases c2 : m < q
    · exact s2 q r (by omega) q2 q3
    · by_cases c3 : r = m
      · rw [c3, hM]; exact lo q q1 (by omega)
      · by_cases c4 : q = m
        · rw [c4, hM]; exact hi r (by omega) q3
        · exact le_trans (lo q q1 (by omega)) (hi r (by omega) q3)
theorem left_next {s : Int} {L4 L5 L6 : List It} {a b x y m : Nat} (ht : Td s L4 a b x y) (hs : Sw x y L4 L5) (hxm : x ≤ m) (hmy : m < y) (hyl : y ≤ L4.length)
    (h1 : ∀ q, x ≤ q → q < m → ahB s L5[q]! L5[m]! = true) (h2 : ∀ q, m < q → q < y → ahB s L5[q]! L5[m]! = false) (hs6 : Sw x m L5 L6) (so6 : So s L6 x m) : Td s L6 a b (m + 1) y ∧ Pd s L6 (m + 1) y := by
  constructor
  · intro L' g1 g2
    have hl6 : L6.length = L4.length := hs6.len.trans hs.len
    refine ht L' ((hs.trans (hs6.mono (Nat.le_refl _) (by omega) (by rw [hs.len]; exact hyl))).trans (g1.mono (by omega) (Nat.le_refl _) (by rw [hl6]; exact hyl))) ?_
    refine so_parts (fun q q1 q2 => le_of_ah (h1 q q1 q2)) h2 (fun k k1 k2 => ?_) ?_ (fun k k1 k2 => ?_) (fun q r q1 q2 q3 => ?_) g2
    · rw [g1.out k (by omega)]
      exact hs6.inn k k1 k2
    · rw [g1.out m (by omega), hs6.out m (by omega)]
    · obtain ⟨j, j1, j2, j3⟩ := g1.inn k (by omega) k2
      exact ⟨j, by omega, j2, by rw [j3, hs6.out j (by omega)]⟩
    · rw [g1.out q (by omega), g1.out r (by omega)]
      exact so6 q r q1 q2 q3
  · intro _ q q1 q2
    rw [show m + 1 - 1 = m from rfl, hs6.out m (by omega), hs6.out q (by omega)]
    exact h2 q (by omega) q2
theorem right_next {s : Int} {L4 L5 L6 : List It} {a b x y m : Nat} (ht : Td s L4 a b x y) (hp : Pd s L4 x y) (hs : Sw x y L4 L5) (hxm : x ≤ m) (hmy : m < y) (hyl : y ≤ L4.length)
    (h1 : ∀ q, x ≤ q → q < m → ahB s L5[q]! L5[m]! = true) (h2 : ∀ q, m < q → q < y → ahB s L5[q]! L5[m]! = false) (hs6 : Sw (m + 1) y L5 L6) (so6 : So s L6 (m + 1) y) : Td s L6 a b x m ∧ Pd s L6 x m := by
  have hl6 : L6.length = L4.length := hs6.len.trans hs.len
  have h46 := hs.trans (hs6.mono (show x ≤ m + 1 by omega) (Nat.le_refl _) (by rw [hs.len]; exact hyl))
  constructor
  · intro L' g1 g2
    refine ht L' (h46.trans (g1.mono (Nat.le_refl _) (by omega) (by rw [hl6]; exact hyl))) ?_
    refine so_parts (fun q q1 q2 => le_of_ah (h1 q q1 q2)) h2 (fun k k1 k2 => ?_) ?_ (fun k k1 k2 => ?_) g2 (fun q r q1 q2 q3 => ?_)
    · obtain ⟨j, j1, j2, j3⟩ := g1.inn k k1 k2
      exact ⟨j, j1, j2, by rw [j3, hs6.out j (by omega)]⟩
    · rw [g1.out m (by omega), hs6.out m (by omega)]
    · rw [g1.out k (by omega)]
      obtain ⟨j, j1, j2, j3⟩ := hs6.inn k (by omega) k2
      exact ⟨j, by omega, j2, j3⟩
    · rw [g1.out q (by omega), g1.out r (by omega)]
      exact so6 q r q1 q2 q3
  · intro h0 q q1 q2
    exact (hp.sw h46) h0 q q1 (by omega)
theorem Pd.left {s : Int} {L : List It} {x y m : Nat} (h : Pd s L x y) (hm : m ≤ y) : Pd s L x m := fun h0 q q1 q2 => h h0 q q1 (by omega)
theorem Pd.right {s : Int} {L : List It} {y m : Nat} (h2 : ∀ q, m < q → q < y → ahB s L[q]! L[m]! = false) : Pd s L (m + 1) y := fun _ q q1 q2 => h2 q (by omega) q2
/-- Some truth value. -/
def isB (v : Value) : Prop := v = .bool true ∨ v = .bool false
theorem isB_of (t : Bool) : isB (.bool t) := by cases t <;> simp [isB]
theorem isB.get {v : Value} (h : isB v) : ∃ t : Bool, v = .bool t := by rcases h with h | h <;> exact ⟨_, h⟩
end Go.Proofs.Ytcipgjelbnmdiaa.HP
