/-
  The longest chain, plainly: the points from the last one of the order to the first; no program.
-/
import Derived.Test.YtaagpnepkjkfoaaRiO
namespace Go.Proofs.Ytaagpnepkjkfoaa.R6

/-- Of a point how long the longest chain is that begins there, from those of its ways. -/
def chainS (a : Nat) (c : List Int) (t : Nat) : List Int := c.set a (max c[a]! (c[t]! + 1))
def chainP (n : NetL) (a : Nat) (c : List Int) : List Int := (wy n a).foldl (chainS a) c
def longS (n : NetL) (s : List Int × Int) (a : Nat) : List Int × Int := (chainP n a s.1, max s.2 (chainP n a s.1)[a]!)
def longR (n : NetL) (r : List Nat) : List Int × Int := r.foldl (longS n) (List.replicate n.length 0, 0)
def longL (n : NetL) : Int := (longR n (ordL n n.length).reverse).2
theorem longR_next (n : NetL) (r : List Nat) (a : Nat) : longR n (r ++ [a]) = longS n (longR n r) a := by unfold longR; rw [List.foldl_append]; rfl
/-- The longest walk from a point has k ways. -/
def LongF (n : NetL) (a : Nat) (k : Int) : Prop := (∀ (j b : Nat), Wk n j a b → (j : Int) ≤ k) ∧ ∃ j b : Nat, (j : Int) = k ∧ Wk n j a b
structure LI (n : NetL) (r : List Nat) (s : List Int × Int) : Prop where
  len : s.1.length = n.length
  yes : ∀ x ∈ r, x < n.length ∧ LongF n x s.1[x]!
  no : ∀ x, x < n.length → x ∉ r → s.1[x]! = 0
  le : ∀ x ∈ r, s.1[x]! ≤ s.2
  ge : 0 ≤ s.2
  is : s.2 = 0 ∨ ∃ x ∈ r, s.1[x]! = s.2
theorem chain_len (a : Nat) : ∀ (ws : List Nat) (c : List Int), (ws.foldl (chainS a) c).length = c.length
  | [], _ => rfl
  | t :: r, c => by rw [List.foldl_cons, chain_len a r]; simp [chainS]
theorem chain_fold (a : Nat) : ∀ (ws : List Nat) (c : List Int), a < c.length → a ∉ ws →
    (∀ x, x ≠ a → (ws.foldl (chainS a) c)[x]! = c[x]!) ∧ c[a]! ≤ (ws.foldl (chainS a) c)[a]! ∧ (∀ t ∈ ws, c[t]! + 1 ≤ (ws.foldl (chainS a) c)[a]!) ∧ ((ws.foldl (chainS a) c)[a]! = c[a]! ∨ ∃ t ∈ ws, (ws.foldl (chainS a) c)[a]! = c[t]! + 1)
  | [], c, _, _ => ⟨fun _ _ => rfl, Int.le_refl _, fun t ht => by simp at ht, .inl rfl⟩
  | t :: r, c, hc, ha => by
    have hta : t ≠ a := fun e => ha (by simp [e])
    have hra : a ∉ r := fun h => ha (by simp [h])
    have hl : a < (chainS a c t).length := by simpa [chainS] using hc
    obtain ⟨h1, h2, h3, h4⟩ := chain_fold a r (chainS a c t) hl hra
    have hoth : ∀ x, x ≠ a → (chainS a c t)[x]! = c[x]! := fun x hx => by unfold chainS; rw [set_get hc, if_neg hx]
    have hself : (chainS a c t)[a]! = max c[a]! (c[t]! + 1) := by unfold chainS; rw [set_get hc, if_pos rfl]
    rw [List.foldl_cons]
    rw [hself] at h2 h4
    refine ⟨fun x hx => (h1 x hx).trans (hoth x hx), by omega, fun y hy => ?_, ?_⟩
    · rcases List.mem_cons.1 hy with rfl | hy
      · omega
      · have := h3 y hy
        rw [hoth y (fun e => hra (e ▸ hy))] at this; exact this
    · rcases h4 with h4 | ⟨y, hy, h4⟩
      · rcases Int.le_total c[a]! (c[t]! + 1) with h | h
        · exact .inr ⟨t, by simp, by rw [h4, Int.max_eq_right h]⟩
        · exact .inl (by rw [h4, Int.max_eq_left h])
      · rw [hoth y (fun e => hra (e ▸ hy))] at h4
        exact .inr ⟨y, by simp [hy], h4⟩
theorem LI.next {n : NetL} {r : List Nat} {s : List Int × Int} {a : Nat} (h : LI n r s) (ha : a < n.length) (hn : a ∉ r) (hw : ∀ x ∈ wy n a, x ∈ r) : LI n (r ++ [a]) (longS n s a) := by
  have haw : a ∉ wy n a := fun h => hn (hw a h)
  have hal : a < s.1.length := by rw [h.len]; exact ha
  obtain ⟨h1, h2, h3, h4⟩ := chain_fold a (wy n a) s.1 hal haw
  have h0 := h.no a ha hn
  rw [h0] at h2 h4
  have hna : ∀ x ∈ r, x ≠ a := fun x hx e => hn (e ▸ hx)
  have hlong : LongF n a ((wy n a).foldl (chainS a) s.1)[a]! := by
    refine ⟨fun j b hj => ?_, ?_⟩
    · cases hj with
      | nil _ => exact h2
      | cons hb hk =>
        have := h3 _ hb
        have := (h.yes _ (hw _ hb)).2.1 _ _ hk
        omega
    · rcases h4 with h4 | ⟨t, ht, h4⟩
      · exact ⟨0, a, by rw [h4]; rfl, .nil ha⟩
      · obtain ⟨j, b, e, hk⟩ := (h.yes t (hw t ht)).2.2
        exact ⟨j + 1, b, by rw [h4, ← e]; rfl, .cons ht hk⟩
  refine ⟨by show ((wy n a).foldl (chainS a) s.1).length = _; rw [chain_len, h.len], fun x hx => ?_, fun x hx hxr => ?_, fun x hx => ?_, ?_, ?_⟩
  · rcases List.mem_append.1 hx with hx | hx
    · refine ⟨(h.yes x hx).1, ?_⟩
      show LongF n x ((wy n a).foldl (chainS a) s.1)[x]!
      rw [h1 x (hna x hx)]; exact (h.yes x hx).2
    · obtain rfl : x = a := by simpa using hx
      exact ⟨ha, hlong⟩
  · show ((wy n a).foldl (chainS a) s.1)[x]! = 0
    rw [h1 x (fun e => hxr (by simp [e]))]; exact h.no x hx (fun e => hxr (by simp [e]))
  · show ((wy n a).foldl (chainS a) s.1)[x]! ≤ max s.2 ((wy n a).foldl (chainS a) s.1)[a]!
    rcases List.mem_append.1 hx with hx | hx
    · rw [h1 x (hna x hx)]
      have := h.le x hx; omega
    · obtain rfl : x = a := by simpa using hx
      omega
  · show 0 ≤ max s.2 ((wy n a).foldl (chainS a) s.1)[a]!
    omega
  · show max s.2 ((wy n a).foldl (chainS a) s.1)[a]! = 0 ∨ ∃ x ∈ r ++ [a], ((wy n a).foldl (chainS a) s.1)[x]! = max s.2 ((wy n a).foldl (chainS a) s.1)[a]!
    rcases Int.le_total s.2 ((wy n a).foldl (chainS a) s.1)[a]! with hle | hle
    · exact .inr ⟨a, by simp, by rw [Int.max_eq_right hle]⟩
    · rw [Int.max_eq_left hle]
      rcases h.is with e | ⟨x, hx, e⟩
      · exact .inl e
      · exact .inr ⟨x, by simp [hx], by rw [h1 x (hna x hx)]; exact e⟩
theorem LI.start (n : NetL) : LI n [] (longR n []) := by
  refine ⟨by simp [longR], fun x hx => by simp at hx, fun x hx _ => ?_, fun x hx => by simp at hx, Int.le_refl _, .inl rfl⟩
  show (List.replicate n.length (0 : Int))[x]! = 0
  rw [getElem!_pos _ x (by simpa using hx)]; simp
theorem LI.long {n : NetL} {r : List Nat} {s : List Int × Int} (h : LI n r s) (hall : ∀ x, x < n.length → x ∈ r) : Long n s.2.toNat := by
  refine ⟨fun j a b hw => ?_, ?_⟩
  · have h1 := (h.yes a (hall a hw.lt.1)).2.1 j b hw
    have h2 := h.le a (hall a hw.lt.1)
    omega
  · rcases h.is with e | ⟨x, hx, e⟩
    · exact .inl (by rw [e]; rfl)
    · obtain ⟨j, b, e', hw⟩ := (h.yes x hx).2.2
      right
      have : s.2.toNat = j := by omega
      rw [this]; exact ⟨x, b, hw⟩
/-- From the last one of the order to the first. -/
theorem long_part {n : NetL} (hac : ∀ a, ¬ Ld n a a) : ∀ k : Nat, k ≤ n.length → LI n ((ordL n n.length).reverse.take k) (longR n ((ordL n n.length).reverse.take k))
  | 0, _ => LI.start n
  | k + 1, hk => by
    obtain ⟨h1, h2⟩ := ord_ok hac n.length (Nat.le_refl _)
    have ih := long_part hac k (by omega)
    have hl : (ordL n n.length).reverse.length = n.length := by rw [List.length_reverse, h2]
    have hkl : k < (ordL n n.length).reverse.length := by omega
    rw [List.take_succ_eq_append_getElem hkl, longR_next]
    have hget : (ordL n n.length)[n.length - 1 - k]? = some (ordL n n.length).reverse[k] := by
      rw [List.getElem_reverse]
      have e : (ordL n n.length).length - 1 - k = n.length - 1 - k := by rw [h2]
      rw [List.getElem?_eq_getElem (by omega)]
      congr 1
      simp only [e]
    generalize hx : (ordL n n.length).reverse[k] = x at *
    have hxm : x ∈ ordL n n.length := mem_at.2 ⟨_, hget⟩
    have hxr : (ordL n n.length).reverse[k]? = some x := by rw [List.getElem?_eq_getElem hkl, hx]
    have hnd : (ordL n n.length).reverse.Nodup := (List.reverse_perm _).nodup_iff.2 h1.nd
    refine ih.next (h1.lt x hxm) (fun hm => ?_) (fun y hy => ?_)
    · obtain ⟨i, hi⟩ := mem_at.1 hm
      rw [List.getElem?_take] at hi
      split at hi
      · rename_i hik
        have hil : i < (ordL n n.length).reverse.length := by omega
        rw [List.getElem?_eq_getElem hil] at hi
        have : i = k := (List.getElem_inj hnd).1 (by injection hi with hi; rw [hi, hx])
        omega
      · cases hi
    · -- what its ways lead to stands behind it
      have hym : y ∈ ordL n n.length := ord_all hac (wy_lt hy)
      obtain ⟨i, hi⟩ := mem_at.1 hym
      obtain ⟨j, g1, g2⟩ := h1.pre i y x hi hy
      have hil : i < n.length := by have := (List.getElem?_eq_some_iff.1 hi).1; omega
      have hjl : j < n.length := by omega
      have hj : j = n.length - 1 - k := by
        rw [List.getElem?_eq_getElem (by rw [h2]; exact hjl)] at g2
        rw [List.getElem?_eq_getElem (by rw [h2]; omega)] at hget
        exact (List.getElem_inj h1.nd).1 (by injection g2 with g2; injection hget with hget; rw [g2, hget])
      refine mem_at.2 ⟨n.length - 1 - i, ?_⟩
      rw [List.getElem?_take, if_pos (by omega), List.getElem?_reverse (by rw [h2]; omega)]
      rw [show (ordL n n.length).length - 1 - (n.length - 1 - i) = i from by rw [h2]; omega]
      exact hi
theorem long_is {n : NetL} (hac : ∀ a, ¬ Ld n a a) : Long n (longL n).toNat ∧ 0 ≤ longL n := by
  have h := long_part hac n.length (Nat.le_refl _)
  obtain ⟨h1, h2⟩ := ord_ok hac n.length (Nat.le_refl _)
  rw [List.take_of_length_le (by rw [List.length_reverse, h2]; exact Nat.le_refl _)] at h
  exact ⟨h.long (fun x hx => by rw [List.mem_reverse]; exact ord_all hac hx), h.ge⟩
theorem long_eq {n : NetL} (hac : ∀ a, ¬ Ld n a a) : longL (turnL n) = longL n := by
  have hac' : ∀ a, ¬ Ld (turnL n) a a := fun a h => hac a (ld_turn.1 h)
  have h1 := long_is hac
  have h2 := long_is hac'
  have := (long_turn.1 h2.1).uniq h1.1
  omega
/-- No chain is longer than there are points. -/
theorem long_le {n : NetL} (hac : ∀ a, ¬ Ld n a a) : ∀ {k a b : Nat} (l : List Nat), Wk n k a b → l.Nodup → (∀ x ∈ l, x < n.length ∧ Ld n x a) → l.length + k + 1 ≤ n.length
  | 0, a, _, l, h, hnd, hl => by
    have hal := h.lt.1
    have := pigeon (N := n.length) (l := a :: l) (List.nodup_cons.2 ⟨fun hm => hac a (hl a hm).2, hnd⟩) (fun x hx => by
      rcases List.mem_cons.1 hx with rfl | hx
      · exact hal
      · exact (hl x hx).1)
    simpa using this
  | k + 1, a, b, l, h, hnd, hl => by
    have hal := h.lt.1
    cases h with
    | cons hw hk =>
      have := long_le hac (a :: l) hk (List.nodup_cons.2 ⟨fun hm => hac a (hl a hm).2, hnd⟩) (fun x hx => by
        rcases List.mem_cons.1 hx with rfl | hx
        · exact ⟨hal, .one hw⟩
        · exact ⟨(hl x hx).1, (hl x hx).2.snoc hw⟩)
      simp at this
      omega
end Go.Proofs.Ytaagpnepkjkfoaa.R6
