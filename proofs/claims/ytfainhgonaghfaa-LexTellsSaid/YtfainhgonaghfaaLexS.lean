/-
  Plain facts of the model of layer 1: tokens that are joined are the same again.
-/
import Derived.Test.YtfainhgonaghfaaLexD
import Derived.Test.YtfainhgonaghfaaLexQ
namespace Go.Proofs.Ytfainhgonaghfaa

/-- What a token is, but for its place. -/
def bare (t : Tok) : Nat × List UInt8 × Nat := (t.kind, t.text, t.val)
/-- A token whose text, alone, is that token. -/
def Own (t : Tok) : Prop := (t.kind = 3 ∧ t.text = [59] ∧ t.val = 0) ∨ (t.text.all innB = true ∧ wordL t.text t.loc = some t)

theorem wordL_at {x : List UInt8} {k k' : Nat} {t : Tok} (h : wordL x k = some t) : wordL x k' = some ⟨t.kind, t.text, t.val, k'⟩ := by
  unfold wordL at h ⊢
  by_cases hn : nameL x = true
  · rw [if_pos hn] at h ⊢; injection h with h; subst h; rfl
  · rw [if_neg hn] at h ⊢
    cases hv : numL x with
    | none => rw [hv] at h; simp at h
    | some v => rw [hv] at h; injection h with h; subst h; rfl
theorem takeL_own {r : List UInt8} {k : Nat} {t : Tok} (h : takeL r k = some t) : Own t := by
  cases r with
  | nil => simp [takeL] at h
  | cons c r =>
    unfold takeL at h
    simp only at h
    by_cases h59 : c.toNat = 59
    · rw [if_pos h59] at h
      injection h with h; subst h
      left
      refine ⟨rfl, ?_, rfl⟩
      show [c] = [59]
      rw [(u8_eq (c := c) (n := 59) (by omega)).2 h59]; rfl
    · rw [if_neg h59] at h
      obtain ⟨h1, _, h3⟩ := wordL_some h
      right
      rw [h1, h3]
      exact ⟨runL_all _, h⟩
theorem lexS_own : ∀ (r : List UInt8) (n k : Nat) (l l' : List Tok), lexS r n k l = (l', 0, 0) → (∀ t ∈ l, Own t) → ∀ t ∈ l', Own t
  | [], n, k, l, l', h, ho => by simp [lexS] at h; subst h; exact ho
  | c :: r, n + 1, k, l, l', h, ho => by rw [lexS] at h; exact lexS_own r n (k + 1) l l' h ho
  | c :: r, 0, k, l, l', h, ho => by
    rw [lexS] at h
    by_cases hg : gapB c = true
    · rw [if_pos hg] at h; exact lexS_own r 0 (k + 1) l l' h ho
    · rw [if_neg hg] at h
      cases ht : takeL (c :: r) k with
      | none => rw [ht] at h; simp at h
      | some t =>
        rw [ht] at h
        simp only at h
        by_cases hl : l.length = 5000
        · rw [if_pos hl] at h; simp at h
        · rw [if_neg hl] at h
          refine lexS_own r _ (k + 1) (l ++ [t]) l' h fun x hx => ?_
          rw [List.mem_append, List.mem_singleton] at hx
          rcases hx with hx | rfl
          · exact ho x hx
          · exact takeL_own ht

theorem runL_app : ∀ (x y : List UInt8), x.all innB = true → (∀ c r, y = c :: r → innB c = false) → runL (x ++ y) = x
  | [], y, _, hy => by
    cases y with
    | nil => rfl
    | cons c r => rw [List.nil_append, runL_none c r (hy c r rfl)]
  | a :: x, y, hx, hy => by
    rw [List.all_cons, Bool.and_eq_true] at hx
    rw [List.cons_append, runL_cons a _ hx.1, runL_app x y hx.2 hy]
theorem inn_not59 {c : UInt8} (h : innB c = true) : ¬ c.toNat = 59 := by
  intro e
  simp [innB, letB, digB, e] at h
theorem inn_notgap {c : UInt8} (h : innB c = true) : ¬ gapB c = true := by
  intro e
  simp [innB, letB, digB, gapB] at h e
  omega
/-- The text of an own token that is no sign, with something behind it that parts. -/
theorem takeL_word {t : Tok} {y : List UInt8} (k : Nat) (hx : t.text.all innB = true) (hw : wordL t.text t.loc = some t) (hy : ∀ c r, y = c :: r → innB c = false) :
    takeL (t.text ++ y) k = some ⟨t.kind, t.text, t.val, k⟩ := by
  have hr := runL_app t.text y hx hy
  have hw' := wordL_at (k' := k) hw
  obtain ⟨_, hne, _⟩ := wordL_some hw
  cases ht : t.text with
  | nil => exact absurd ht hne
  | cons c x =>
    rw [ht] at hr hw' hx
    rw [List.all_cons, Bool.and_eq_true] at hx
    rw [List.cons_append] at hr ⊢
    simp only [takeL]
    rw [if_neg (inn_not59 hx.1), hr]
    exact hw'
theorem join_parts (l : List Tok) : ∀ c r, joinS false l = c :: r → (∀ t ∈ l, Own t) → innB c = false := by
  intro c r h ho
  cases l with
  | nil => simp [joinS] at h
  | cons t l =>
    rw [joinS] at h
    rcases ho t (by simp) with ⟨_, h2, _⟩ | ⟨h1, h2⟩
    · rw [h2] at h
      simp at h
      rw [← h.1]; rfl
    · have h59 : (t.text == [59]) = false := by
        rw [beq_eq_false_iff_ne]
        intro e
        rw [e] at h1
        simp [innB, letB, digB] at h1
      rw [h59] at h
      simp at h
      rw [← h.1]; rfl
theorem lexS_gap {c : UInt8} {r : List UInt8} {k : Nat} {l : List Tok} (hg : gapB c = true) : lexS (c :: r) 0 k l = lexS r 0 (k + 1) l := by rw [lexS, if_pos hg]

/-- TOKENS THAT ARE JOINED ARE THE SAME AGAIN, but for their places. -/
theorem join_back : ∀ (l : List Tok) (p : Bool) (k : Nat) (acc : List Tok), (∀ t ∈ l, Own t) → acc.length + l.length ≤ 5000 →
    ∃ l', lexS (joinS p l) 0 k acc = (acc ++ l', 0, 0) ∧ l'.map bare = l.map bare
  | [], p, k, acc, _, _ => ⟨[], by simp [joinS, lexS], rfl⟩
  | t :: l, p, k, acc, ho, hl => by
    simp only [List.length_cons] at hl
    have ho' : ∀ x ∈ l, Own x := fun x hx => ho x (by simp [hx])
    rcases ho t (by simp) with ⟨h1, h2, h3⟩ | ⟨h1, h2⟩
    · have e : joinS p (t :: l) = 59 :: 10 :: joinS true l := by
        rw [joinS, h2]; simp
      have ht : takeL (59 :: 10 :: joinS true l) k = some ⟨3, [59], 0, k⟩ := by rfl
      rw [e, lexS_tok (by decide) ht (by omega)]
      show ∃ l', lexS (10 :: joinS true l) 0 (k + 1) (acc ++ [⟨3, [59], 0, k⟩]) = _ ∧ _
      rw [lexS_gap (by decide)]
      obtain ⟨l', h4, h5⟩ := join_back l true (k + 1 + 1) (acc ++ [⟨3, [59], 0, k⟩]) ho' (by simp only [List.length_append, List.length_cons, List.length_nil]; omega)
      refine ⟨⟨3, [59], 0, k⟩ :: l', by rw [h4]; simp, ?_⟩
      rw [List.map_cons, List.map_cons, h5]
      simp [bare, h1, h2, h3]
    · have h59 : (t.text == [59]) = false := by
        rw [beq_eq_false_iff_ne]
        intro e
        rw [e] at h1
        simp [innB, letB, digB] at h1
      have word : ∀ k, ∃ l', lexS (t.text ++ joinS false l) 0 k acc = (acc ++ l', 0, 0) ∧ l'.map bare = (t :: l).map bare := by
        intro k
        have ht := takeL_word k h1 h2 (fun c r e => join_parts l c r e ho')
        obtain ⟨_, hne, _⟩ := wordL_some h2
        cases hx : t.text with
        | nil => exact absurd hx hne
        | cons c x =>
          rw [hx] at ht h1
          rw [List.all_cons, Bool.and_eq_true] at h1
          rw [List.cons_append] at ht ⊢
          rw [lexS_tok (inn_notgap h1.1) ht (by omega)]
          simp only
          rw [← List.cons_append, List.drop_left]
          obtain ⟨l', h4, h5⟩ := join_back l false (k + (c :: x).length) (acc ++ [⟨t.kind, c :: x, t.val, k⟩]) ho' (by simp only [List.length_append, List.length_cons, List.length_nil]; omega)
          refine ⟨⟨t.kind, c :: x, t.val, k⟩ :: l', by rw [h4]; simp, ?_⟩
          rw [List.map_cons, List.map_cons, h5]
          simp [bare, hx]
      cases p with
      | true =>
        have e : joinS true (t :: l) = t.text ++ joinS false l := by rw [joinS, h59]; simp
        rw [e]; exact word k
      | false =>
        have e : joinS false (t :: l) = 32 :: (t.text ++ joinS false l) := by rw [joinS, h59]; simp
        rw [e, lexS_gap (by decide)]; exact word (k + 1)
theorem join_bare : ∀ (l l' : List Tok) (p : Bool), l'.map bare = l.map bare → joinS p l' = joinS p l
  | [], [], _, _ => rfl
  | [], _ :: _, _, h => by simp at h
  | _ :: _, [], _, h => by simp at h
  | t :: l, t' :: l', p, h => by
    rw [List.map_cons, List.map_cons] at h
    injection h with h1 h2
    have ht : t'.text = t.text := by simp only [bare, Prod.mk.injEq] at h1; exact h1.2.1
    rw [joinS, joinS, ht, join_bare l l' _ h2]
theorem join_size : ∀ (l : List Tok) (p : Bool), (joinS p l).length ≤ (l.map fun t => t.text.length).sum + 2 * l.length
  | [], _ => by simp [joinS]
  | t :: l, p => by
    have := join_size l (t.text == [59])
    rw [joinS]
    simp only [List.length_append, List.map_cons, List.sum_cons, List.length_cons]
    have h1 : (if (!p && !(t.text == [59])) = true then [32] else ([] : List UInt8)).length + (if (t.text == [59]) = true then [10] else ([] : List UInt8)).length ≤ 1 := by
      cases p <;> cases (t.text == [59]) <;> simp
    omega
theorem Placed.sum {s : List UInt8} : ∀ {l : List Tok} {k : Nat}, Placed s k l → k ≤ s.length → (l.map fun t => t.text.length).sum + k ≤ s.length
  | [], k, _, hk => by simpa using hk
  | t :: l, k, h, _ => by
    obtain ⟨h1, h2, _, _, _, h6⟩ := h
    have := Placed.sum h6 h2
    simp only [List.map_cons, List.sum_cons]
    omega
end Go.Proofs.Ytfainhgonaghfaa
