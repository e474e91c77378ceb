/-
  A row that is sorted in place: what stays, what may be said of it; plainly: the insertion sort.
-/
import Derived.Test.YtcipgjelbnmdiaaHpP
import Derived.BigQuiet
import Derived.Test.YtcipgjelbnmdiaaRgc
namespace Go.Proofs.Ytcipgjelbnmdiaa.HP
open Go.RowKit Go.Shelf Go.Proofs.Ytcipgjelbnmdiaa.B

/-- What comes of a list by exchanges of places from a on, below b. -/
inductive Sw (a b : Nat) : List It → List It → Prop
  | refl (L : List It) : Sw a b L L
  | step {L L' : List It} {i j : Nat} (h : Sw a b L L') (hi : a ≤ i ∧ i < b) (hj : a ≤ j ∧ j < b) (hb : b ≤ L'.length) : Sw a b L (sw L' i j)
theorem Sw.len {a b : Nat} {L L' : List It} (h : Sw a b L L') : L'.length = L.length := by
  induction h with
  | refl => rfl
  | step _ _ _ _ ih => rw [sw_len, ih]
theorem Sw.perm {a b : Nat} {L L' : List It} (h : Sw a b L L') : L'.Perm L := by
  induction h with
  | refl => exact List.Perm.refl _
  | step _ hi hj hb ih => exact (sw_perm (by omega) (by omega)).trans ih
theorem Sw.out {a b : Nat} {L L' : List It} (h : Sw a b L L') : ∀ k, ¬ (a ≤ k ∧ k < b) → L'[k]! = L[k]! := by
  induction h with
  | refl => exact fun _ _ => rfl
  | step _ hi hj hb ih =>
    intro k hk
    rw [sw_at (by omega) (by omega), if_neg (by omega), if_neg (by omega)]
    exact ih k hk
theorem Sw.inn {a b : Nat} {L L' : List It} (h : Sw a b L L') : ∀ k, a ≤ k → k < b → ∃ m, a ≤ m ∧ m < b ∧ L'[k]! = L[m]! := by
  induction h with
  | refl => exact fun k h1 h2 => ⟨k, h1, h2, rfl⟩
  | step _ hi hj hb ih =>
    intro k h1 h2
    rw [sw_at (by omega) (by omega)]
    split
    · exact ih _ hi.1 hi.2
    · split
      · exact ih _ hj.1 hj.2
      · exact ih k h1 h2
theorem Sw.trans {a b : Nat} {L L' L'' : List It} (h : Sw a b L L') (k : Sw a b L' L'') : Sw a b L L'' := by
  induction k with
  | refl => exact h
  | step _ hi hj hb ih => exact .step ih hi hj hb
theorem Sw.mono {a b a' b' : Nat} {L L' : List It} (h : Sw a b L L') (ha : a' ≤ a) (hb : b ≤ b') (hl : b' ≤ L.length) : Sw a' b' L L' := by
  induction h with
  | refl => exact .refl _
  | step hs hi hj _ ih => exact .step ih ⟨by omega, by omega⟩ ⟨by omega, by omega⟩ (by rw [hs.len]; exact hl)
/-- In order from a on, below b. -/
def So (s : Int) (L : List It) (a b : Nat) : Prop := ∀ p q, a ≤ p → p < q → q < b → le s L[p]! L[q]!
/-- In order but for one place. -/
def Sx (s : Int) (L : List It) (a j i : Nat) : Prop := ∀ p q, a ≤ p → p < q → q ≤ i → q ≠ j → le s L[p]! L[q]!
theorem Sx.start {s : Int} {L : List It} {a i : Nat} (h : So s L a i) : Sx s L a i i := fun p q h1 h2 h3 h4 => h p q h1 h2 (by omega)
theorem Sx.stop {s : Int} {L : List It} {a j i : Nat} (h : Sx s L a j i) (hj : j ≤ i) (hs : j = a ∨ ahB s L[j]! L[j - 1]! = false) : So s L a (i + 1) := by
  intro p q h1 h2 h3
  by_cases e : q = j
  · rcases hs with hs | hs
    · omega
    · by_cases e2 : p = j - 1
      · rw [e, e2]; exact hs
      · rw [e]
        exact le_trans (h p (j - 1) h1 (by omega) (by omega) (by omega)) hs
  · exact h p q h1 h2 (by omega) e
theorem Sx.step {s : Int} {L : List It} {a j i : Nat} (h : Sx s L a j i) (ha : a < j) (hj : j ≤ i) (hi : i < L.length) (hs : ahB s L[j]! L[j - 1]! = true) : Sx s (sw L j (j - 1)) a (j - 1) i := by
  intro p q h1 h2 h3 h4
  have hle := le_of_ah hs
  rw [sw_at (by omega) (by omega), sw_at (by omega) (by omega)]
  by_cases e1 : q = j
  · rw [if_neg (show ¬ q = j - 1 by omega), if_pos e1]
    by_cases e2 : p = j - 1
    · rw [if_pos e2]; exact hle
    · rw [if_neg e2, if_neg (by omega)]
      exact h p (j - 1) h1 (by omega) (by omega) (by omega)
  · rw [if_neg h4, if_neg e1]
    by_cases e2 : p = j - 1
    · rw [if_pos e2]
      exact h j q (by omega) (by omega) h3 e1
    · rw [if_neg e2]
      by_cases e3 : p = j
      · rw [if_pos e3]
        exact h (j - 1) q (by omega) (by omega) h3 e1
      · rw [if_neg e3]
        exact h p q h1 h2 h3 e1
/-- A row of one's own that is sorted in place: all else is as it was. -/
structure SR (w0 : World) (g c : Nat) (L : List It) (w : World) : Prop where
  k : Kept ⟨w0, fun q => q = g⟩ w
  r : w.ownsRow 0 32 3 (.slice (some ⟨g, 0, none⟩) L.length c) L.length (L.flatMap itC)
theorem SR.call {w0 w w' : World} {g c : Nat} {L : List It} (h : SR w0 g c L w) (hb : Below w.heap.size w w') : SR w0 g c L w' := ⟨h.k.call hb, own_below h.r hb⟩
theorem SR.drew {w0 w : World} {g c : Nat} {L : List It} (h : SR w0 g c L w) : SR w0 g c L w.drew := ⟨h.k.drew, h.r.drew⟩
theorem SR.at_ {w0 w : World} {g c : Nat} {L : List It} (h : SR w0 g c L w) {i : Nat} (hi : i < L.length) : w.cell? ⟨g, i * 3, none⟩ = some (.int .i64 L[i]!.id) ∧ w.cell? ⟨g, i * 3 + 1, none⟩ = some (.int .i64 L[i]!.base) ∧ w.cell? ⟨g, i * 3 + 2, none⟩ = some (.int .i64 L[i]!.since) := (row_at h.r hi rfl).1
/-- The heap's step is where it was. -/
theorem SR.step {w0 w : World} {g c : Nat} {L : List It} (h : SR w0 g c L w) {hb : Nat} {v : Value} (hc : w0.cell? ⟨hb, 0, none⟩ = some v) (hne : hb ≠ g) : w.cell? ⟨hb, 0, none⟩ = some v :=
  (World.cell?_of_block (w := w0) (h.k.block hb (World.block_lt_of_cell? _ _ hc) hne)).trans hc
/-- An exchange. -/
theorem SR.swap {w0 w : World} {g c : Nat} {L : List It} (h : SR w0 g c L w) {i j : Nat} (hi : i < L.length) (hj : j < L.length) : SR w0 g c (sw L i j) (put3 (put3 w g (i * 3) L[j]!) g (j * 3) L[i]!) := by
  refine ⟨(h.k.put3 (.inl rfl) _ _).put3 (.inl rfl) _ _, ?_⟩
  have h1 := row_put h.r hi L[j]!
  have h2 := row_put (L := L.set i L[j]!) h1 (i := j) (by rw [List.length_set]; exact hj) L[i]!
  rw [sw_len]
  exact h2
theorem SR.lt {w0 w : World} {g c : Nat} {L : List It} (h : SR w0 g c L w) : g < w.heap.size := by
  rcases h.r.2 with ⟨hv, _⟩ | ⟨g', cap, cur, hv, _, hg, _⟩
  · cases hv
  · injection hv with e _ _
    injection e with e
    injection e with e _ _
    rw [e]; exact blk_lt hg
/-- A call of compare, from whatever world of the class. -/
theorem cmp_class {w0 : World} {g c hb : Nat} {s : Int} {L : List It} (hc : w0.cell? ⟨hb, 0, none⟩ = some (.int .i64 s)) (hne : hb ≠ g) (h1 : 1 ≤ s) (h2 : s ≤ 1048576) (x y : It) (hx : OkI x) (hy : OkI y) :
    ∀ z : WIn (SR w0 g c L), Calls Try.prog 50 #[pt hb, itV x, itV y] z.w fun e w'' => e = .returned (.int .i64 (cmpL s x y)) ∧ ∃ z' : WIn (SR w0 g c L), w'' = z'.w :=
  class_call (fun _ _ h hb => h.call hb) (fun W h => compare_any W hb s (h.step hc hne) h1 h2 x y hx hy)
end Go.Proofs.Ytcipgjelbnmdiaa.HP
