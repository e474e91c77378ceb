/-
  The order of a net, plainly: how many ways wait, who may stand next, and that somebody may where no point leads back; the longest chain; no program.
-/
import Derived.Test.YtaagpnepkjkfoaaRiN
namespace Go.Proofs.Ytaagpnepkjkfoaa.R6

/-! ### who waits -/
/-- How many ways lead to a point from points that don't stand yet. -/
def cntW (n : NetL) (o : List Nat) (x : Nat) : Nat := ((List.range n.length).map fun a => if a ∈ o then 0 else (wy n a).count x).sum
theorem sum_split {f g : Nat → Nat} {a : Nat} : ∀ {l : List Nat}, l.Nodup → a ∈ l → (∀ x ∈ l, x ≠ a → g x = f x) → g a = 0 → (l.map f).sum = (l.map g).sum + f a
  | [], _, h, _, _ => by simp at h
  | y :: r, hnd, h, hg, h0 => by
    rw [List.map_cons, List.map_cons, List.sum_cons, List.sum_cons]
    have hy := (List.nodup_cons.1 hnd).1
    by_cases e : y = a
    · subst e
      have : r.map g = r.map f := List.map_congr_left (fun x hx => hg x (by simp [hx]) (fun e => hy (e ▸ hx)))
      rw [this, h0]; omega
    · have hr : a ∈ r := by
        rcases List.mem_cons.1 h with h | h
        · exact absurd h.symm e
        · exact h
      have := sum_split (List.nodup_cons.1 hnd).2 hr (fun x hx => hg x (by simp [hx])) h0
      rw [hg y (by simp) e]; omega
theorem cnt_step {n : NetL} {o : List Nat} {a : Nat} (x : Nat) (ha : a < n.length) (hn : a ∉ o) : cntW n o x = cntW n (o ++ [a]) x + (wy n a).count x := by
  unfold cntW
  have := sum_split (f := fun a => if a ∈ o then 0 else (wy n a).count x) (g := fun b => if b ∈ o ++ [a] then 0 else (wy n b).count x) (a := a) (List.nodup_range (n := n.length)) (List.mem_range.2 ha)
    (fun y _ hy => by simp [hy]) (by simp)
  rw [this]
  simp only [if_neg hn]
theorem sum_zero {l : List Nat} : l.sum = 0 ↔ ∀ x ∈ l, x = 0 := by
  induction l with
  | nil => simp
  | cons y r ih => rw [List.sum_cons]; constructor
                   · intro h x hx
                     rcases List.mem_cons.1 hx with rfl | hx
                     · omega
                     · exact ih.1 (by omega) x hx
                   · intro h
                     have := h y (by simp)
                     have := ih.2 (fun x hx => h x (by simp [hx]))
                     omega
theorem cnt_zero {n : NetL} {o : List Nat} {x : Nat} : cntW n o x = 0 ↔ ∀ a, a < n.length → a ∈ o ∨ x ∉ wy n a := by
  unfold cntW
  rw [sum_zero]
  constructor
  · intro h a ha
    have := h _ (List.mem_map.2 ⟨a, List.mem_range.2 ha, rfl⟩)
    by_cases e : a ∈ o
    · exact .inl e
    · rw [if_neg e] at this
      exact .inr (List.count_eq_zero.1 this)
  · intro h y hy
    obtain ⟨a, ha, rfl⟩ := List.mem_map.1 hy
    rcases h a (List.mem_range.1 ha) with e | e
    · rw [if_pos e]
    · split
      · rfl
      · exact List.count_eq_zero.2 e
/-- Of each point how many ways wait; below 0: it stands. -/
def waitI (n : NetL) (o : List Nat) (x : Nat) : Int := if x ∈ o then -1 else (cntW n o x : Int)
def waitL (n : NetL) (o : List Nat) : List Int := (List.range n.length).map (waitI n o)
theorem wait_len (n : NetL) (o : List Nat) : (waitL n o).length = n.length := by simp [waitL]
theorem wait_at {n : NetL} {o : List Nat} {x : Nat} (hx : x < n.length) : (waitL n o)[x]! = waitI n o x := by
  rw [getElem!_pos _ x (by rw [wait_len]; exact hx)]; simp [waitL]
theorem list_ext {α : Type} [Inhabited α] {a b : List α} (h : a.length = b.length) (g : ∀ i : Nat, i < a.length → a[i]! = b[i]!) : a = b := by
  refine List.ext_getElem h (fun i h1 h2 => ?_)
  have := g i h1
  rw [getElem!_pos a i h1, getElem!_pos b i h2] at this
  exact this

/-! ### counting -/
/-- Up by one at each, or down. -/
def addL (d : Int) (ws : List Nat) (w : List Int) : List Int := ws.foldl (fun w t => w.set t (w[t]! + d)) w
theorem addL_len (d : Int) : ∀ (ws : List Nat) (w : List Int), (addL d ws w).length = w.length
  | [], _ => rfl
  | t :: r, w => by
    have e : addL d (t :: r) w = addL d r (w.set t (w[t]! + d)) := rfl
    rw [e, addL_len d r, List.length_set]
theorem addL_at (d : Int) : ∀ (ws : List Nat) (w : List Int) (x : Nat), (∀ t ∈ ws, t < w.length) → (addL d ws w)[x]! = w[x]! + d * (ws.count x : Int)
  | [], w, x, _ => by simp [addL]
  | t :: r, w, x, h => by
    have e : addL d (t :: r) w = addL d r (w.set t (w[t]! + d)) := rfl
    rw [e, addL_at d r _ x (fun y hy => by rw [List.length_set]; exact h y (by simp [hy])), set_get (h t (by simp)), List.count_cons]
    by_cases e : x = t
    · subst e
      rw [if_pos rfl]
      simp only [beq_self_eq_true, if_true]
      rw [Int.natCast_add, Int.mul_add]
      simp; omega
    · rw [if_neg e]
      have : (t == x) = false := by simpa using fun h => e h.symm
      simp [this]
/-- The ways of the first k points. -/
def countL (n : NetL) (k : Nat) : List Int := (List.range k).foldl (fun w a => addL 1 (wy n a) w) (List.replicate n.length 0)
theorem count_next (n : NetL) (k : Nat) : countL n (k + 1) = addL 1 (wy n k) (countL n k) := by
  unfold countL; rw [List.range_succ, List.foldl_append]; rfl
theorem count_len (n : NetL) : ∀ k : Nat, (countL n k).length = n.length
  | 0 => by simp [countL]
  | k + 1 => by rw [count_next, addL_len, count_len n k]
theorem count_at (n : NetL) (x : Nat) : ∀ k : Nat, (countL n k)[x]! = (((List.range k).map fun a => (wy n a).count x).sum : Nat)
  | 0 => by
    show (List.replicate n.length (0 : Int))[x]! = 0
    by_cases h : x < n.length
    · rw [getElem!_pos _ x (by simpa using h)]; simp
    · rw [getElem!_neg _ x (by simpa using h)]; rfl
  | k + 1 => by
    rw [count_next, addL_at 1 _ _ x (fun t ht => by rw [count_len]; exact wy_lt ht), count_at n x k, List.range_succ, List.map_append, List.sum_append]
    simp
theorem count_all (n : NetL) : countL n n.length = waitL n [] := by
  refine list_ext (by rw [count_len, wait_len]) (fun i hi => ?_)
  rw [count_len] at hi
  rw [count_at, wait_at hi]
  simp [waitI, cntW]
/-- A point stands, and its ways wait no more. -/
theorem wait_step {n : NetL} {o : List Nat} {a : Nat} (ha : a < n.length) (hn : a ∉ o) (hw : ∀ x ∈ wy n a, x ∉ o) (hna : a ∉ wy n a) : addL (-1) (wy n a) ((waitL n o).set a (-1)) = waitL n (o ++ [a]) := by
  refine list_ext (by rw [addL_len, List.length_set, wait_len, wait_len]) (fun i hi => ?_)
  rw [addL_len, List.length_set, wait_len] at hi
  rw [addL_at _ _ _ i (fun t ht => by rw [List.length_set, wait_len]; exact wy_lt ht), set_get (by rw [wait_len]; exact ha), wait_at hi, wait_at hi]
  by_cases e : i = a
  · subst e
    rw [if_pos rfl, List.count_eq_zero.2 hna]
    simp [waitI]
  · rw [if_neg e]
    unfold waitI
    by_cases ho : i ∈ o
    · rw [if_pos ho, if_pos (by simp [ho]), List.count_eq_zero.2 (fun h => hw i h ho)]; simp
    · rw [if_neg ho, if_neg (by simp [ho, e]), cnt_step i ha hn]
      omega

/-! ### who may stand next -/
def freeB (n : NetL) (o : List Nat) (i : Nat) : Bool := decide (i ∉ o) && (List.range n.length).all fun j => decide (j ∈ o) || !decide (i ∈ wy n j)
theorem free_iff {n : NetL} {o : List Nat} {i : Nat} : freeB n o i = true ↔ i ∉ o ∧ ∀ j, j < n.length → j ∈ o ∨ i ∉ wy n j := by
  simp only [freeB, Bool.and_eq_true, decide_eq_true_eq, List.all_eq_true, List.mem_range, Bool.or_eq_true, Bool.not_eq_true', decide_eq_false_iff_not]
theorem free_wait {n : NetL} {o : List Nat} {i : Nat} (hi : i < n.length) : freeB n o i = true ↔ (waitL n o)[i]! = 0 := by
  rw [free_iff, wait_at hi]
  unfold waitI
  by_cases h : i ∈ o
  · rw [if_pos h]; simp [h]
  · rw [if_neg h]
    have := cnt_zero (n := n) (o := o) (x := i)
    constructor
    · rintro ⟨_, h2⟩; rw [this.2 h2]; rfl
    · intro h2; exact ⟨h, this.1 (by omega)⟩
def nextO (n : NetL) (o : List Nat) : Option Nat := (List.range n.length).find? (freeB n o)
def ordL (n : NetL) : Nat → List Nat
  | 0 => []
  | k + 1 => match nextO n (ordL n k) with
    | some i => ordL n k ++ [i]
    | none => ordL n k
/-- Not all stand: somebody may stand next. -/
theorem next_some {n : NetL} (hac : ∀ a, ¬ Ld n a a) (o : List Nat) (h : ∃ x, x < n.length ∧ x ∉ o) : ∃ i, nextO n o = some i := by
  classical
  have hlead : ∀ (m x : Nat), x < n.length → x ∉ o → ((List.range n.length).filter fun y => decide (Ld n y x)).length ≤ m → ∃ z, z < n.length ∧ freeB n o z = true := by
    intro m
    induction m with
    | zero =>
      intro x hx hxo hm
      refine ⟨x, hx, free_iff.2 ⟨hxo, fun j hj => .inr (fun hw => ?_)⟩⟩
      have : j ∈ (List.range n.length).filter fun y => decide (Ld n y x) := List.mem_filter.2 ⟨List.mem_range.2 hj, decide_eq_true (.one hw)⟩
      have := List.length_pos_of_mem this
      omega
    | succ m ih =>
      intro x hx hxo hm
      by_cases hf : freeB n o x = true
      · exact ⟨x, hx, hf⟩
      · have : ∃ j, j < n.length ∧ j ∉ o ∧ x ∈ wy n j := by
          apply Classical.byContradiction
          intro hno
          refine hf (free_iff.2 ⟨hxo, fun j hj => ?_⟩)
          by_cases e : j ∈ o
          · exact .inl e
          · exact .inr (fun hw => hno ⟨j, hj, e, hw⟩)
        obtain ⟨j, hj, hjo, hw⟩ := this
        refine ih j hj hjo ?_
        have hsub : ∀ y, decide (Ld n y j) = true → decide (Ld n y x) = true := fun y hy => decide_eq_true ((of_decide_eq_true hy).snoc hw)
        have := countP_lt (p := fun y => decide (Ld n y j)) (q := fun y => decide (Ld n y x)) (l := List.range n.length) (x := j) (List.mem_range.2 hj) hsub (decide_eq_true (.one hw)) (decide_eq_false (hac j))
        rw [List.countP_eq_length_filter, List.countP_eq_length_filter] at this
        omega
  obtain ⟨x, hx, hxo⟩ := h
  obtain ⟨z, hz, hf⟩ := hlead _ x hx hxo (Nat.le_refl _)
  unfold nextO
  cases hq : (List.range n.length).find? (freeB n o) with
  | some i => exact ⟨i, rfl⟩
  | none => rw [List.find?_eq_none] at hq; exact absurd hf (hq z (List.mem_range.2 hz))
theorem next_mem {n : NetL} {o : List Nat} {i : Nat} (h : nextO n o = some i) : i < n.length ∧ freeB n o i = true := by
  unfold nextO at h
  exact ⟨List.mem_range.1 (List.mem_of_find?_eq_some h), List.find?_some h⟩
/-- What holds of those that stand. -/
structure OI (n : NetL) (o : List Nat) : Prop where
  nd : o.Nodup
  lt : ∀ x ∈ o, x < n.length
  pre : ∀ (i x a : Nat), o[i]? = some x → x ∈ wy n a → ∃ j : Nat, j < i ∧ o[j]? = some a
theorem wy_from {n : NetL} {a b : Nat} (h : b ∈ wy n a) : a < n.length := by
  rcases Nat.lt_or_ge a n.length with h' | h'
  · exact h'
  · rw [wy_out h'] at h; simp at h
theorem OI.next {n : NetL} {o : List Nat} {i : Nat} (h : OI n o) (hi : nextO n o = some i) : OI n (o ++ [i]) := by
  obtain ⟨h1, h2⟩ := next_mem hi
  obtain ⟨h3, h4⟩ := free_iff.1 h2
  refine ⟨?_, fun x hx => ?_, fun k x a hk hw => ?_⟩
  · rw [List.nodup_append]
    exact ⟨h.nd, by simp, fun x hx y hy e => by simp at hy; subst hy; subst e; exact h3 hx⟩
  · rcases List.mem_append.1 hx with hx | hx
    · exact h.lt x hx
    · obtain rfl : x = i := by simpa using hx
      exact h1
  · rcases app_get.1 hk with hk | ⟨rfl, rfl⟩
    · obtain ⟨j, g1, g2⟩ := h.pre k x a hk hw
      exact ⟨j, g1, app_get.2 (.inl g2)⟩
    · rcases h4 a (wy_from hw) with h | h
      · obtain ⟨j, hj⟩ := mem_at.1 h
        exact ⟨j, (List.getElem?_eq_some_iff.1 hj).1, app_get.2 (.inl hj)⟩
      · exact absurd hw h
theorem nodup_le : ∀ {l m : List Nat}, l.Nodup → (∀ x ∈ l, x ∈ m) → l.length ≤ m.length
  | [], _, _, _ => Nat.zero_le _
  | x :: r, m, hnd, h => by
    have hx := h x (by simp)
    have h2 := nodup_le (l := r) (m := m.erase x) (List.nodup_cons.1 hnd).2 (fun y hy => (List.mem_erase_of_ne (fun e : y = x => (List.nodup_cons.1 hnd).1 (by rw [← e]; exact hy))).2 (h y (by simp [hy])))
    rw [List.length_erase_of_mem hx] at h2
    have := List.length_pos_of_mem hx
    rw [List.length_cons]; omega
theorem pigeon {N : Nat} {l : List Nat} (hnd : l.Nodup) (hlt : ∀ x ∈ l, x < N) : l.length ≤ N := by
  have := nodup_le hnd (m := List.range N) (fun x hx => List.mem_range.2 (hlt x hx))
  simpa using this
theorem ord_ok {n : NetL} (hac : ∀ a, ¬ Ld n a a) : ∀ k : Nat, k ≤ n.length → OI n (ordL n k) ∧ (ordL n k).length = k
  | 0, _ => ⟨⟨by simp [ordL], fun x hx => by simp [ordL] at hx, fun i x a hi => by simp [ordL] at hi⟩, rfl⟩
  | k + 1, hk => by
    obtain ⟨h1, h2⟩ := ord_ok hac k (by omega)
    have hex : ∃ x, x < n.length ∧ x ∉ ordL n k := by
      apply Classical.byContradiction
      intro hno
      have := nodup_le (m := ordL n k) (List.nodup_range (n := n.length)) (fun x hx => Classical.byContradiction (fun h => hno ⟨x, List.mem_range.1 hx, h⟩))
      rw [List.length_range] at this
      omega
    obtain ⟨i, hi⟩ := next_some hac _ hex
    have e : ordL n (k + 1) = ordL n k ++ [i] := by rw [ordL, hi]
    rw [e]
    exact ⟨h1.next hi, by simp [h2]⟩
theorem ord_next {n : NetL} (hac : ∀ a, ¬ Ld n a a) {k : Nat} (hk : k < n.length) : ∃ i, nextO n (ordL n k) = some i ∧ ordL n (k + 1) = ordL n k ++ [i] := by
  have h1 := ord_ok hac k (by omega)
  have h2 := ord_ok hac (k + 1) (by omega)
  cases hq : nextO n (ordL n k) with
  | some i => exact ⟨i, rfl, by rw [ordL, hq]⟩
  | none =>
    have e : ordL n (k + 1) = ordL n k := by rw [ordL, hq]
    rw [e] at h2; omega
/-- The next one: the first of which nothing waits; and what its ways lead to doesn't stand. -/
theorem next_facts {n : NetL} (hac : ∀ a, ¬ Ld n a a) {o : List Nat} {i : Nat} (ho : OI n o) (hi : nextO n o = some i) :
    i < n.length ∧ i ∉ o ∧ (waitL n o)[i]! = 0 ∧ (∀ j, j < i → (waitL n o)[j]! ≠ 0) ∧ (∀ x ∈ wy n i, x ∉ o) ∧ i ∉ wy n i := by
  obtain ⟨h1, h2⟩ := next_mem hi
  obtain ⟨h3, h4⟩ := free_iff.1 h2
  refine ⟨h1, h3, (free_wait h1).1 h2, fun j hj e => ?_, fun x hx hxo => ?_, fun h => hac i (.one h)⟩
  · have hf := (free_wait (n := n) (o := o) (show j < n.length by omega)).2 e
    unfold nextO at hi
    rw [List.find?_range_eq_some] at hi
    have := hi.2.2 j hj
    rw [hf] at this; cases this
  · obtain ⟨k, hk⟩ := mem_at.1 hxo
    obtain ⟨j, g1, g2⟩ := ho.pre k x i hk hx
    exact h3 (mem_at.2 ⟨j, g2⟩)
theorem ord_all {n : NetL} (hac : ∀ a, ¬ Ld n a a) {x : Nat} (hx : x < n.length) : x ∈ ordL n n.length := by
  obtain ⟨h1, h2⟩ := ord_ok hac n.length (Nat.le_refl _)
  apply Classical.byContradiction
  intro hno
  have hnd : (x :: ordL n n.length).Nodup := List.nodup_cons.2 ⟨hno, h1.nd⟩
  have := pigeon (N := n.length) hnd (fun y hy => by rcases List.mem_cons.1 hy with rfl | hy; exact hx; exact h1.lt y hy)
  simp at this
  omega
end Go.Proofs.Ytaagpnepkjkfoaa.R6
