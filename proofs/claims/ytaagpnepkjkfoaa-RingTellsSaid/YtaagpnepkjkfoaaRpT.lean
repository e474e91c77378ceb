/-
  The document's own answers of nets, plainly: what leads where over the first points, its rings, its order, its chains.
-/
import Derived.Test.YtaagpnepkjkfoaaRiL
namespace Go.Proofs.Ytaagpnepkjkfoaa.R6

/-- Does a point lead to another one, over the first k points? -/
def wB (n : NetL) : Nat → Nat → Nat → Bool
  | 0, i, j => decide (j ∈ wy n i)
  | k + 1, i, j => wB n k i j || (wB n k i k && wB n k k j)
theorem wB_col (n : NetL) (k i : Nat) : wB n (k + 1) i k = wB n k i k := by
  show (wB n k i k || (wB n k i k && wB n k k k)) = _
  cases wB n k i k <;> simp
theorem wB_row (n : NetL) (k j : Nat) : wB n (k + 1) k j = wB n k k j := by
  show (wB n k k j || (wB n k k k && wB n k k j)) = _
  cases wB n k k j <;> simp
theorem wB_no {n : NetL} {k i : Nat} (h : wB n k i k = false) (j : Nat) : wB n (k + 1) i j = wB n k i j := by
  show (wB n k i j || (wB n k i k && wB n k k j)) = _
  rw [h]; simp
theorem wB_yes {n : NetL} {k i : Nat} (h : wB n k i k = true) (j : Nat) : wB n (k + 1) i j = (wB n k i j || wB n k k j) := by
  show (wB n k i j || (wB n k i k && wB n k k j)) = _
  rw [h]; simp
theorem wB_or {n : NetL} {k a b : Nat} : wB n (k + 1) a b = true ↔ wB n k a b = true ∨ (wB n k a k = true ∧ wB n k k b = true) := by
  show (wB n k a b || (wB n k a k && wB n k k b)) = true ↔ _
  rw [Bool.or_eq_true, Bool.and_eq_true]
theorem wB_ld {n : NetL} : ∀ {k a b : Nat}, wB n k a b = true → Ld n a b
  | 0, _, _, h => .one (of_decide_eq_true h)
  | k + 1, _, _, h => by
    rcases wB_or.1 h with h | ⟨h1, h2⟩
    · exact wB_ld h
    · exact (wB_ld h1).trans (wB_ld h2)
theorem wB_way {n : NetL} {a b : Nat} (h : b ∈ wy n a) : ∀ k : Nat, wB n k a b = true
  | 0 => decide_eq_true h
  | k + 1 => wB_or.2 (.inl (wB_way h k))
theorem wB_over {n : NetL} : ∀ (k a b c : Nat), b < k → wB n k a b = true → wB n k b c = true → wB n k a c = true
  | 0, _, _, _, h, _, _ => absurd h (Nat.not_lt_zero _)
  | k + 1, a, b, c, h, h1, h2 => by
    by_cases e : b = k
    · subst e
      rw [wB_col] at h1
      rw [wB_row] at h2
      exact wB_or.2 (.inr ⟨h1, h2⟩)
    · have hb : b < k := by omega
      rcases wB_or.1 h1 with g1 | ⟨g1, g2⟩ <;> rcases wB_or.1 h2 with g3 | ⟨g3, g4⟩
      · exact wB_or.2 (.inl (wB_over k a b c hb g1 g3))
      · exact wB_or.2 (.inr ⟨wB_over k a b k hb g1 g3, g4⟩)
      · exact wB_or.2 (.inr ⟨g1, wB_over k k b c hb g2 g3⟩)
      · exact wB_or.2 (.inr ⟨g1, g4⟩)
def tB (n : NetL) (i j : Nat) : Bool := wB n n.length i j
theorem tB_iff {n : NetL} {i j : Nat} : tB n i j = true ↔ Ld n i j := by
  refine ⟨wB_ld, fun h => ?_⟩
  unfold tB
  induction h with
  | one h => exact wB_way h _
  | more h _ ih => exact wB_over _ _ _ _ (wy_lt h) (wB_way h _) ih

/-! ### rings -/
theorem ring_is {n : NetL} {i j : Nat} (hi : i < n.length) (hj : j < n.length) : decide ((headL n)[j]! = (headL n)[i]!) = (decide (j = i) || (tB n i j && tB n j i)) := by
  rw [Bool.eq_iff_iff, decide_eq_true_eq, Bool.or_eq_true, Bool.and_eq_true, decide_eq_true_eq, tB_iff, tB_iff, head_same hj hi]
  constructor
  · rintro (h | ⟨h1, h2⟩)
    · exact .inl h
    · exact .inr ⟨h2, h1⟩
  · rintro (h | ⟨h1, h2⟩)
    · exact .inl h
    · exact .inr ⟨h2, h1⟩
theorem ringOf_in {H : List Int} {k i : Nat} (hi : i < k) : i ∈ ringOf H k i := List.mem_filter.2 ⟨List.mem_range.2 hi, decide_eq_true rfl⟩
theorem ringOf_sorted (H : List Int) (k i : Nat) : (ringOf H k i).Pairwise (· < ·) := (List.pairwise_lt_range).filter _
/-- A ring's first point. -/
theorem ring_first {H : List Int} {k i : Nat} (hi : i < k) : ((ringOf H k i)[0]! = i) ↔ firstB H i = true := by
  have hm := ringOf_in (H := H) hi
  have hs := ringOf_sorted H k i
  cases hr : ringOf H k i with
  | nil => rw [hr] at hm; cases hm
  | cons x r =>
    rw [hr] at hm hs
    show x = i ↔ _
    have hx : x ∈ ringOf H k i := by rw [hr]; exact List.mem_cons_self
    have hx' := List.mem_filter.1 hx
    have hxk := List.mem_range.1 hx'.1
    have hxe := of_decide_eq_true hx'.2
    have hle : x ≤ i := by
      rcases List.mem_cons.1 hm with h | h
      · omega
      · have := (List.pairwise_cons.1 hs).1 i h; omega
    unfold firstB
    rw [decide_eq_true_eq]
    constructor
    · rintro rfl j hj e
      have : j ∈ ringOf H k x := List.mem_filter.2 ⟨List.mem_range.2 (by omega), decide_eq_true e⟩
      rw [hr] at this
      rcases List.mem_cons.1 this with h | h
      · omega
      · have := (List.pairwise_cons.1 hs).1 j h; omega
    · intro h
      rcases Nat.lt_or_ge x i with h1 | h1
      · exact absurd hxe (h x h1)
      · omega
/-- The rings of the first k points. -/
def rgL (n : NetL) (k : Nat) : NetL := ((List.range k).filter (firstB (headL n))).map fun i => (ringOf (headL n) n.length i).map fun j : Nat => (j : Int)
theorem rgL_next (n : NetL) (k : Nat) : rgL n (k + 1) = rgL n k ++ (if firstB (headL n) k then [(ringOf (headL n) n.length k).map fun j : Nat => (j : Int)] else []) := by
  unfold rgL
  rw [filt_next, List.map_append]
  congr 1
  cases firstB (headL n) k <;> rfl
theorem rgL_len (n : NetL) (k : Nat) : (rgL n k).length ≤ k := by
  unfold rgL
  rw [List.length_map]
  have := List.length_filter_le (firstB (headL n)) (List.range k)
  rwa [List.length_range] at this
theorem rgL_all (n : NetL) : rgL n n.length = (ringsL n).map fun l => l.map fun j : Nat => (j : Int) := by
  unfold rgL ringsL gatherL
  rw [List.map_map]
  rfl
theorem ringOf_len (H : List Int) (k i : Nat) : (ringOf H k i).length ≤ k := by
  have := List.length_filter_le (fun j => decide (H[j]! = H[i]!)) (List.range k)
  rwa [List.length_range] at this

/-! ### where a point leads -/
def rcL (n : NetL) (r k : Nat) : List Nat := (List.range k).filter fun j => tB n r j
theorem rcL_next (n : NetL) (r k : Nat) : rcL n r (k + 1) = rcL n r k ++ (if tB n r k then [k] else []) := by
  unfold rcL
  rw [List.range_succ, List.filter_append]
  congr 1
  cases h : tB n r k with
  | true => rw [List.filter_cons_of_pos h]; rfl
  | false => rw [List.filter_cons_of_neg (by rw [h]; decide)]; rfl
theorem rcL_all {n : NetL} {r : Nat} (hr : r < n.length) : rcL n r n.length = reachL n r := by
  unfold rcL reachL
  refine List.filter_congr (fun j _ => ?_)
  rw [Bool.eq_iff_iff, tB_iff, ledL_iff hr]
theorem rcL_len (n : NetL) (r k : Nat) : (rcL n r k).length ≤ k := by
  have := List.length_filter_le (fun j => tB n r j) (List.range k)
  rwa [List.length_range] at this

/-! ### an order -/
theorem free_some {n : NetL} {o : List Nat} {i : Nat} (hi : i < n.length) (h : freeB n o i = true) (hb : ∀ j, j < i → freeB n o j = false) : nextO n o = some i := by
  unfold nextO
  rw [List.find?_eq_some_iff_getElem]
  refine ⟨h, i, by simpa using hi, by simp, fun j hj => ?_⟩
  simp only [List.getElem_range]
  rw [hb j hj]; rfl

/-! ### chains -/
/-- Where a chain of k ways ends. -/
def eB (n : NetL) : Nat → Nat → Bool
  | 0, _ => true
  | k + 1, x => (List.range n.length).any fun i => eB n k i && decide (x ∈ wy n i)
theorem eB_iff {n : NetL} : ∀ {k x : Nat}, x < n.length → (eB n k x = true ↔ ∃ a, Wk n k a x)
  | 0, x, hx => ⟨fun _ => ⟨x, .nil hx⟩, fun _ => rfl⟩
  | k + 1, x, hx => by
    show ((List.range n.length).any fun i => eB n k i && decide (x ∈ wy n i)) = true ↔ _
    rw [List.any_eq_true]
    constructor
    · rintro ⟨i, hi, h⟩
      rw [Bool.and_eq_true, decide_eq_true_eq] at h
      obtain ⟨a, ha⟩ := (eB_iff (List.mem_range.1 hi)).1 h.1
      exact ⟨a, ha.snoc h.2⟩
    · rintro ⟨a, ha⟩
      obtain ⟨b, hb, hw⟩ := ha.split
      exact ⟨b, List.mem_range.2 hb.lt.2, by rw [Bool.and_eq_true, decide_eq_true_eq]; exact ⟨(eB_iff hb.lt.2).2 ⟨a, hb⟩, hw⟩⟩
/-- Of the first i points, and of the next one's ways to the first j: where a chain of one way more ends. -/
def nB (n : NetL) (k i j x : Nat) : Bool := ((List.range i).any fun y => eB n k y && decide (x ∈ wy n y)) || (decide (x < j) && (eB n k i && decide (x ∈ wy n i)))
theorem nB_zero (n : NetL) (k x : Nat) : nB n k 0 0 x = false := by simp [nB]
theorem nB_row {n : NetL} {k i x : Nat} (hx : x < n.length) : nB n k i n.length x = nB n k (i + 1) 0 x := by
  unfold nB
  rw [List.range_succ, List.any_append]
  simp [hx]
theorem nB_all {n : NetL} {k x : Nat} : nB n k n.length 0 x = eB n (k + 1) x := by
  unfold nB
  simp only [Nat.not_lt_zero, decide_false, Bool.false_and, Bool.or_false]
  rfl
theorem nB_step (n : NetL) (k i j x : Nat) : nB n k i (j + 1) x = (nB n k i j x || (decide (x = j) && (eB n k i && decide (j ∈ wy n i)))) := by
  unfold nB
  by_cases h : x = j
  · subst h
    simp
  · have : decide (x < j + 1) = decide (x < j) := by rw [decide_eq_decide]; omega
    rw [this, decide_eq_false h]; simp
theorem walk_none {n : NetL} {k : Nat} (h : ∀ x, x < n.length → eB n (k + 1) x = false) {j a b : Nat} (hw : Wk n j a b) : j ≤ k := by
  have key : ∀ (m a b : Nat), ¬ Wk n (k + 1 + m) a b := by
    intro m
    induction m with
    | zero =>
      intro a b hw
      have := (eB_iff hw.lt.2).2 ⟨a, hw⟩
      rw [h b hw.lt.2] at this; cases this
    | succ m ih =>
      intro a b hw
      obtain ⟨c, hc, _⟩ := Wk.split hw
      exact ih a c hc
  rcases Nat.lt_or_ge k j with h1 | h1
  · exfalso
    obtain ⟨m, rfl⟩ : ∃ m, j = k + 1 + m := ⟨j - k - 1, by omega⟩
    exact key m a b hw
  · exact h1
theorem long_found {n : NetL} (hac : ∀ a, ¬ Ld n a a) {k : Nat} (h : ∀ x, x < n.length → eB n (k + 1) x = false) (h0 : k = 0 ∨ ∃ x, x < n.length ∧ eB n k x = true) : longL n = (k : Int) := by
  have hl : Long n k := ⟨fun j a b hw => walk_none h hw, by
    rcases h0 with h0 | ⟨x, hx, hk⟩
    · exact .inl h0
    · obtain ⟨a, ha⟩ := (eB_iff hx).1 hk
      exact .inr ⟨a, x, ha⟩⟩
  obtain ⟨h1, h2⟩ := long_is hac
  have := h1.uniq hl
  omega
theorem long_small {n : NetL} (hac : ∀ a, ¬ Ld n a a) {k x : Nat} (hx : x < n.length) (h : eB n k x = true) : k + 1 ≤ n.length := by
  obtain ⟨a, ha⟩ := (eB_iff hx).1 h
  have := long_le hac (k := k) [] ha List.nodup_nil (fun x hx => by cases hx)
  simpa using this
end Go.Proofs.Ytaagpnepkjkfoaa.R6
