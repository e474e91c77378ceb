/-
  The net the other way round, plainly; walks, and the longest chain; no program.
-/
import Derived.Test.YtaagpnepkjkfoaaRiG
namespace Go.Proofs.Ytaagpnepkjkfoaa.R6

/-- Of one point those of which a way leads to it, of the first k. -/
def toL (n : NetL) (k i : Nat) : List Int := ((List.range k).filter fun j => decide (i ∈ wy n j)).map (fun j : Nat => (j : Int))
def turnL (n : NetL) : NetL := (List.range n.length).map (toL n n.length)
theorem turn_len (n : NetL) : (turnL n).length = n.length := by simp [turnL]
theorem turn_at {n : NetL} {i : Nat} (hi : i < n.length) : (turnL n)[i]! = toL n n.length i := by
  rw [getElem!_pos _ i (by rw [turn_len]; exact hi)]; simp [turnL]
theorem wy_turn {n : NetL} {a b : Nat} : b ∈ wy (turnL n) a ↔ a ∈ wy n b := by
  rcases Nat.lt_or_ge a n.length with ha | ha
  · rw [wy_mem, turn_len, turn_at ha]
    unfold toL
    constructor
    · rintro ⟨h, hb⟩
      obtain ⟨j, hj, e⟩ := List.mem_map.1 h
      obtain rfl : j = b := by omega
      simpa using (List.mem_filter.1 hj).2
    · intro h
      have hb : b < n.length := by
        rcases Nat.lt_or_ge b n.length with h' | h'
        · exact h'
        · rw [wy_out h'] at h; simp at h
      exact ⟨List.mem_map.2 ⟨b, List.mem_filter.2 ⟨List.mem_range.2 hb, decide_eq_true h⟩, rfl⟩, hb⟩
  · rw [wy_out (by rw [turn_len]; exact ha)]
    constructor
    · intro h; simp at h
    · intro h; exact absurd (wy_lt h) (by omega)
theorem Ld.snoc {n : NetL} {a b c : Nat} (h : Ld n a b) (k : c ∈ wy n b) : Ld n a c := h.trans (.one k)
theorem ld_turn1 {n : NetL} {a b : Nat} (h : Ld n a b) : Ld (turnL n) b a := by
  induction h with
  | one h => exact .one (wy_turn.2 h)
  | more h _ ih => exact ih.snoc (wy_turn.2 h)
theorem ld_turn {n : NetL} {a b : Nat} : Ld (turnL n) b a ↔ Ld n a b := by
  refine ⟨fun h => ?_, ld_turn1⟩
  induction h with
  | one h => exact .one (wy_turn.1 h)
  | more h _ ih => exact ih.snoc (wy_turn.1 h)
theorem ld_turn2 {n : NetL} {a b : Nat} : Ld (turnL (turnL n)) a b ↔ Ld n a b := by rw [ld_turn, ld_turn]
theorem bool_ext {a b : Bool} (h : a = true ↔ b = true) : a = b := by
  cases a <;> cases b <;> simp_all
theorem reach_eq {n m : NetL} {a : Nat} (hl : m.length = n.length) (h : ∀ b, Ld m a b ↔ Ld n a b) : reachL m a = reachL n a := by
  rcases Nat.lt_or_ge a n.length with ha | ha
  · unfold reachL
    rw [hl]
    refine List.filter_congr (fun j _ => bool_ext ?_)
    rw [ledL_iff (by rw [hl]; exact ha), ledL_iff ha]; exact h j
  · rw [reach_out ha, reach_out (by rw [hl]; exact ha)]
theorem rings_eq {n m : NetL} (hl : m.length = n.length) (h : ∀ a b, (Ld m a b ∧ Ld m b a) ↔ (Ld n a b ∧ Ld n b a)) : ringsL m = ringsL n := by
  have key : ∀ a b, a < n.length → b < n.length → ((headL m)[a]! = (headL m)[b]! ↔ (headL n)[a]! = (headL n)[b]!) := by
    intro a b ha hb
    rw [head_same (by rw [hl]; exact ha) (by rw [hl]; exact hb), head_same ha hb, h a b]
  unfold ringsL gatherL
  rw [hl]
  have hf : ∀ i ∈ List.range n.length, firstB (headL m) i = firstB (headL n) i := by
    intro i hi
    have hi := List.mem_range.1 hi
    unfold firstB
    refine bool_ext ?_
    rw [decide_eq_true_eq, decide_eq_true_eq]
    exact ⟨fun h j hj e => h j hj ((key j i (by omega) hi).2 e), fun h j hj e => h j hj ((key j i (by omega) hi).1 e)⟩
  rw [List.filter_congr hf]
  refine List.map_congr_left (fun i hi => ?_)
  have hi := (firsts_mem.1 hi).1
  unfold ringOf
  refine List.filter_congr (fun j hj => bool_ext ?_)
  rw [decide_eq_true_eq, decide_eq_true_eq]
  exact key j i (List.mem_range.1 hj) hi
theorem rings_turn (n : NetL) : ringsL (turnL n) = ringsL n := rings_eq (turn_len n) (fun a b => by rw [ld_turn, ld_turn]; exact And.comm)
theorem reach_turn2 (n : NetL) (a : Nat) : reachL (turnL (turnL n)) a = reachL n a := reach_eq (by rw [turn_len, turn_len]) (fun b => ld_turn2)
theorem rings_len_le (n : NetL) : (ringsL n).length ≤ n.length := by
  unfold ringsL; rw [gather_len]; unfold cntF
  have := List.length_filter_le (firstB (headL n)) (List.range n.length)
  simpa using this
/-- Without a point that leads back each point is a ring. -/
theorem rings_acyclic {n : NetL} (h : ∀ a, ¬ Ld n a a) : (ringsL n).length = n.length := by
  unfold ringsL; rw [gather_len]; unfold cntF
  rw [List.filter_eq_self.2, List.length_range]
  intro i hi
  have hi := List.mem_range.1 hi
  simp only [firstB, decide_eq_true_eq]
  intro j hj e
  rcases (head_same (by omega) hi).1 e with e | ⟨h1, h2⟩
  · omega
  · exact h j (h1.trans h2)

/-! ### walks -/
/-- A walk of k ways. -/
inductive Wk (n : NetL) : Nat → Nat → Nat → Prop
  | nil {a : Nat} : a < n.length → Wk n 0 a a
  | cons {k a b c : Nat} : b ∈ wy n a → Wk n k b c → Wk n (k + 1) a c
theorem Wk.snoc {n : NetL} {k a b c : Nat} (h : Wk n k a b) (hw : c ∈ wy n b) : Wk n (k + 1) a c := by
  induction h with
  | nil h => exact .cons hw (.nil (wy_lt hw))
  | cons h _ ih => exact .cons h (ih hw)
theorem Wk.lt {n : NetL} {k a b : Nat} (h : Wk n k a b) : a < n.length ∧ b < n.length := by
  induction h with
  | nil h => exact ⟨h, h⟩
  | cons h _ ih =>
    refine ⟨?_, ih.2⟩
    rename_i a' b' c' _
    rcases Nat.lt_or_ge a' n.length with h' | h'
    · exact h'
    · rw [wy_out h'] at h; simp at h
theorem wk_turn1 {n : NetL} {k a b : Nat} (h : Wk n k a b) : Wk (turnL n) k b a := by
  induction h with
  | nil h => exact .nil (by rw [turn_len]; exact h)
  | cons h _ ih => exact ih.snoc (wy_turn.2 h)
theorem wk_turn {n : NetL} {k a b : Nat} : Wk (turnL n) k b a ↔ Wk n k a b := by
  refine ⟨fun h => ?_, wk_turn1⟩
  induction h with
  | nil h => exact .nil (by rw [turn_len] at h; exact h)
  | cons h _ ih => exact ih.snoc (wy_turn.1 h)
theorem Wk.rc {n : NetL} {k a b : Nat} (h : Wk n k a b) : Rc n a b := by
  induction h with
  | nil _ => exact .refl _ _
  | cons h _ ih => exact (Rc.one h).trans ih
theorem Wk.ld {n : NetL} {k a b : Nat} (h : Wk n (k + 1) a b) : Ld n a b := by
  cases h with
  | cons h hk =>
    rcases hk.rc with rfl | hr
    · exact .one h
    · exact .more h hr
/-- A chain of one way more goes on from a walk that ends. -/
theorem Wk.split {n : NetL} {k a c : Nat} (h : Wk n (k + 1) a c) : ∃ b, Wk n k a b ∧ c ∈ wy n b := by
  induction k generalizing a with
  | zero =>
    cases h with
    | cons h hk => cases hk; exact ⟨a, .nil (by
        rcases Nat.lt_or_ge a n.length with h' | h'
        · exact h'
        · rw [wy_out h'] at h; simp at h), h⟩
  | succ k ih =>
    cases h with
    | cons h hk =>
      obtain ⟨b, h1, h2⟩ := ih hk
      exact ⟨b, .cons h h1, h2⟩
/-- Where k is the greatest number of ways of a walk. -/
def Long (n : NetL) (k : Nat) : Prop := (∀ j a b, Wk n j a b → j ≤ k) ∧ (k = 0 ∨ ∃ a b, Wk n k a b)
theorem Long.uniq {n : NetL} {j k : Nat} (h : Long n j) (g : Long n k) : j = k := by
  have h1 : j ≤ k := by
    rcases h.2 with e | ⟨a, b, w⟩
    · omega
    · exact g.1 j a b w
  have h2 : k ≤ j := by
    rcases g.2 with e | ⟨a, b, w⟩
    · omega
    · exact h.1 k a b w
  omega
theorem long_turn {n : NetL} {k : Nat} : Long (turnL n) k ↔ Long n k := by
  unfold Long
  constructor
  · rintro ⟨h1, h2⟩
    exact ⟨fun j a b w => h1 j b a (wk_turn.2 w), h2.imp id (fun ⟨a, b, w⟩ => ⟨b, a, wk_turn.1 w⟩)⟩
  · rintro ⟨h1, h2⟩
    exact ⟨fun j a b w => h1 j b a (wk_turn.1 w), h2.imp id (fun ⟨a, b, w⟩ => ⟨b, a, wk_turn.2 w⟩)⟩
end Go.Proofs.Ytaagpnepkjkfoaa.R6
