/-
  Plain facts of the model of layer 1: what an answer looks like; what stands ahead of an error; no Go, no program.
-/
import Derived.Test.YtplplkchibefjaaLexM
namespace Go.Proofs.Ytplplkchibefjaa

theorem inn32 : innB 32 = false := by rfl
theorem runL_take : ∀ (r : List UInt8) (m : Nat), (runL r).length ≤ m → runL (r.take m) = runL r
  | [], m, _ => by simp
  | c :: r, m, h => by
    by_cases hc : innB c = true
    · rw [runL_cons c r hc] at h ⊢
      cases m with
      | zero => simp at h
      | succ m => rw [List.take_succ_cons, runL_cons c _ hc, runL_take r m (by simpa using h)]
    · have hc' : innB c = false := by simpa using hc
      rw [runL_none c r hc']
      cases m with
      | zero => rfl
      | succ m => rw [List.take_succ_cons, runL_none c _ hc']
theorem runL_gap : ∀ (r more : List UInt8), runL (r ++ 32 :: more) = runL r
  | [], more => by rw [List.nil_append, runL_none _ _ inn32]; rfl
  | c :: r, more => by
    rw [List.cons_append]
    by_cases hc : innB c = true
    · rw [runL_cons c _ hc, runL_cons c _ hc, runL_gap r more]
    · have hc' : innB c = false := by simpa using hc
      rw [runL_none c _ hc', runL_none c _ hc']
theorem takeL_gap (c : UInt8) (r more : List UInt8) (k : Nat) : takeL (c :: r ++ 32 :: more) k = takeL (c :: r) k := by
  have := runL_gap (c :: r) more
  rw [List.cons_append] at this ⊢
  simp only [takeL, this]
theorem takeL_take {c : UInt8} {r : List UInt8} {k m : Nat} {t : Tok} (h : takeL (c :: r) k = some t) (hm : t.text.length ≤ m) : takeL ((c :: r).take m) k = some t := by
  have h1 := (takeL_len h).1
  cases m with
  | zero => omega
  | succ m =>
    rw [List.take_succ_cons]
    unfold takeL at h ⊢
    simp only at h ⊢
    by_cases h59 : c.toNat = 59
    · rw [if_pos h59] at h ⊢; exact h
    · rw [if_neg h59] at h ⊢
      have h2 := (wordL_some h).1
      have := runL_take (c :: r) (m + 1) (by rw [← h2]; exact hm)
      rw [List.take_succ_cons] at this
      rw [this]; exact h

/-- Every answer is tokens, or one of two errors at a place that is there; with few bytes there is no 'too many'. -/
theorem lexS_codes : ∀ (r : List UInt8) (n k : Nat) (l : List Tok), l.length + r.length < 5000 →
    (∃ l', lexS r n k l = (l', 0, 0)) ∨ (∃ k', lexS r n k l = ([], k', 2) ∧ k ≤ k' ∧ k' < k + r.length)
  | [], n, k, l, _ => .inl ⟨l, by simp [lexS]⟩
  | c :: r, n + 1, k, l, h => by
    simp only [List.length_cons] at h
    rcases lexS_codes r n (k + 1) l (by omega) with ⟨l', e⟩ | ⟨k', e, h1, h2⟩
    · exact .inl ⟨l', by rw [lexS]; exact e⟩
    · exact .inr ⟨k', by rw [lexS]; exact e, by omega, by simp only [List.length_cons]; omega⟩
  | c :: r, 0, k, l, h => by
    simp only [List.length_cons] at h
    rw [lexS]
    by_cases hg : gapB c = true
    · rw [if_pos hg]
      rcases lexS_codes r 0 (k + 1) l (by omega) with ⟨l', e⟩ | ⟨k', e, h1, h2⟩
      · exact .inl ⟨l', e⟩
      · exact .inr ⟨k', e, by omega, by simp only [List.length_cons]; omega⟩
    · rw [if_neg hg]
      cases ht : takeL (c :: r) k with
      | none => exact .inr ⟨k, rfl, Nat.le_refl _, by simp⟩
      | some t =>
        simp only
        rw [if_neg (by omega)]
        rcases lexS_codes r (t.text.length - 1) (k + 1) (l ++ [t]) (by simp only [List.length_append, List.length_cons, List.length_nil]; omega) with ⟨l', e⟩ | ⟨k', e, h1, h2⟩
        · exact .inl ⟨l', e⟩
        · exact .inr ⟨k', e, by omega, by simp only [List.length_cons]; omega⟩
theorem lexL_codes (s : List UInt8) (h : s.length < 5000) : (∃ l', lexL s = (l', 0, 0)) ∨ (∃ k', lexL s = ([], k', 2) ∧ k' < s.length) := by
  rcases lexS_codes s 0 0 [] (by simpa using h) with h | ⟨k', h1, _, h2⟩
  · exact .inl h
  · exact .inr ⟨k', h1, by omega⟩

theorem lexS_few : ∀ (r : List UInt8) (n k : Nat) (l l' : List Tok), lexS r n k l = (l', 0, 0) → l'.length ≤ l.length + r.length
  | [], n, k, l, l', h => by simp [lexS] at h; subst h; simp
  | c :: r, n + 1, k, l, l', h => by
    rw [lexS] at h
    have := lexS_few r n (k + 1) l l' h
    simp only [List.length_cons]; omega
  | c :: r, 0, k, l, l', h => by
    rw [lexS] at h
    simp only [List.length_cons]
    by_cases hg : gapB c = true
    · rw [if_pos hg] at h
      have := lexS_few r 0 (k + 1) l l' h
      omega
    · rw [if_neg hg] at h
      cases ht : takeL (c :: r) k with
      | none => rw [ht] at h; simp at h
      | some t =>
        rw [ht] at h
        simp only at h
        by_cases hl : l.length = 5000
        · rw [if_pos hl] at h; simp at h
        · rw [if_neg hl] at h
          have := lexS_few r _ (k + 1) (l ++ [t]) l' h
          simp only [List.length_append, List.length_cons, List.length_nil] at this
          omega
theorem lexL_few {s : List UInt8} {l : List Tok} (hs : s.length < 5000) (h : lexL s = (l, 0, 0)) : l.length ≤ 5000 := by
  have := lexS_few s 0 0 [] l h
  simp at this; omega

/-- A token is passed over whole. -/
theorem lexS_tok {c : UInt8} {r : List UInt8} {k : Nat} {l : List Tok} {t : Tok} (hg : ¬ gapB c = true) (ht : takeL (c :: r) k = some t) (hl : l.length ≠ 5000) :
    lexS (c :: r) 0 k l = lexS ((c :: r).drop t.text.length) 0 (k + t.text.length) (l ++ [t]) := by
  obtain ⟨h1, h2⟩ := takeL_len ht
  simp only [List.length_cons] at h2
  rw [lexS, if_neg hg, ht]
  simp only [hl, if_false]
  rw [lexS_skip _ _ _ _ (by omega)]
  obtain ⟨m, hm⟩ : ∃ m, t.text.length = m + 1 := ⟨t.text.length - 1, by omega⟩
  rw [hm, List.drop_succ_cons]
  congr 1
  omega

/-- What stands ahead of an error is tokens; with it, and whatever behind a blank, it is the same error. -/
theorem lexS_ahead : ∀ (n : Nat) (r : List UInt8) (k k' : Nat) (l : List Tok), r.length ≤ n → lexS r 0 k l = ([], k', 2) →
    k ≤ k' ∧ (∃ l', lexS (r.take (k' - k)) 0 k l = (l', 0, 0)) ∧ ∀ more, lexS (r ++ 32 :: more) 0 k l = ([], k', 2) := by
  intro n
  induction n with
  | zero =>
    intro r k k' l hn h
    have : r = [] := List.eq_nil_of_length_eq_zero (by omega)
    subst this
    simp [lexS] at h
  | succ n ih =>
    intro r k k' l hn h
    cases r with
    | nil => simp [lexS] at h
    | cons c r =>
      simp only [List.length_cons] at hn
      by_cases hg : gapB c = true
      · rw [lexS, if_pos hg] at h
        obtain ⟨h1, ⟨l', h2⟩, h3⟩ := ih r (k + 1) k' l (by omega) h
        refine ⟨by omega, ⟨l', ?_⟩, fun more => ?_⟩
        · obtain ⟨m, hm⟩ : ∃ m, k' - k = m + 1 := ⟨k' - k - 1, by omega⟩
          rw [hm, List.take_succ_cons, lexS, if_pos hg, ← h2]
          congr 2; omega
        · rw [List.cons_append, lexS, if_pos hg]; exact h3 more
      · cases ht : takeL (c :: r) k with
        | none =>
          rw [lexS, if_neg hg, ht] at h
          simp only [Prod.mk.injEq, and_true, true_and] at h
          subst h
          refine ⟨Nat.le_refl _, ⟨l, by simp [lexS]⟩, fun more => ?_⟩
          have := takeL_gap c r more k
          rw [List.cons_append] at this ⊢
          rw [lexS, if_neg hg, this, ht]
        | some t =>
          by_cases hl : l.length = 5000
          · rw [lexS, if_neg hg, ht] at h
            simp [hl] at h
          · obtain ⟨t1, t2⟩ := takeL_len ht
            simp only [List.length_cons] at t2
            rw [lexS_tok hg ht hl] at h
            obtain ⟨h1, ⟨l', h2⟩, h3⟩ := ih _ _ k' _ (by rw [List.length_drop, List.length_cons]; omega) h
            refine ⟨by omega, ⟨l', ?_⟩, fun more => ?_⟩
            · have hm : t.text.length ≤ k' - k := by omega
              have hk := takeL_take ht hm
              obtain ⟨m, hm'⟩ : ∃ m, k' - k = m + 1 := ⟨k' - k - 1, by omega⟩
              rw [hm', List.take_succ_cons] at hk ⊢
              rw [lexS_tok hg hk hl, ← h2, ← List.take_succ_cons, ← hm', List.drop_take]
              congr 2; omega
            · have hk := takeL_gap c r more k
              rw [ht] at hk
              rw [List.cons_append] at hk ⊢
              rw [lexS_tok hg hk hl, ← h3 more, ← List.cons_append, List.drop_append_of_le_length (by simp only [List.length_cons]; omega)]

end Go.Proofs.Ytplplkchibefjaa
