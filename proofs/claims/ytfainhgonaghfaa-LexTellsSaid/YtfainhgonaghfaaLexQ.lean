/-
  Plain facts of the model of layer 1: where tokens stand; no Go, no program.
-/
import Derived.Test.YtfainhgonaghfaaLexP
namespace Go.Proofs.Ytfainhgonaghfaa

/-- From place k on: the tokens stand where they say, nothing but blanks and line feeds between and behind. -/
def Placed (s : List UInt8) : Nat → List Tok → Prop
  | k, [] => ∀ (j : Nat) (h : j < s.length), k ≤ j → gapB s[j] = true
  | k, t :: r => k ≤ t.loc ∧ t.loc + t.text.length ≤ s.length ∧ (s.drop t.loc).take t.text.length = t.text ∧ t.text ≠ [] ∧ (∀ (j : Nat) (h : j < s.length), k ≤ j → j < t.loc → gapB s[j] = true) ∧ Placed s (t.loc + t.text.length) r

theorem Placed.gap {s : List UInt8} {k : Nat} {l : List Tok} (hk : k < s.length) (hg : gapB s[k] = true) (h : Placed s (k + 1) l) : Placed s k l := by
  cases l with
  | nil =>
    intro j hj hkj
    rcases Nat.eq_or_lt_of_le hkj with rfl | hlt
    · exact hg
    · exact h j hj hlt
  | cons t r =>
    obtain ⟨h1, h2, h3, h4, h5, h6⟩ := h
    refine ⟨by omega, h2, h3, h4, fun j hj hkj hjt => ?_, h6⟩
    rcases Nat.eq_or_lt_of_le hkj with rfl | hlt
    · exact hg
    · exact h5 j hj hlt hjt

theorem lexS_placed (s : List UInt8) : ∀ (n k : Nat) (l l' : List Tok), s.length - k ≤ n → lexS (s.drop k) 0 k l = (l', 0, 0) → ∃ m, l' = l ++ m ∧ Placed s k m := by
  intro n
  induction n with
  | zero =>
    intro k l l' hn h
    rw [lex_end (by omega)] at h
    refine ⟨[], by simpa using (Prod.mk.inj h).1.symm, fun j hj hk => by omega⟩
  | succ n ih =>
    intro k l l' hn h
    by_cases hk : k < s.length
    · by_cases hg : gapB s[k] = true
      · rw [lex_gap hk hg] at h
        obtain ⟨m, h1, h2⟩ := ih (k + 1) l l' (by omega) h
        exact ⟨m, h1, h2.gap hk hg⟩
      · have hg' : gapB s[k] = false := by simpa using hg
        cases ht : takeL (s.drop k) k with
        | none => rw [lex_form hk hg' ht] at h; simp at h
        | some t =>
          by_cases hl : l.length = 5000
          · rw [lex_many hk hg' ht hl] at h; simp at h
          · rw [lex_tok hk hg' ht hl] at h
            obtain ⟨t1, t2⟩ := takeL_len ht
            obtain ⟨t3, t4, t5⟩ := takeL_some ht
            rw [List.length_drop] at t2
            obtain ⟨m, h1, h2⟩ := ih (k + t.text.length) (l ++ [t]) l' (by omega) h
            refine ⟨t :: m, by rw [h1]; simp, ?_⟩
            subst t5
            exact ⟨Nat.le_refl _, by omega, t4.symm, t3, fun j hj h1 h2 => by omega, h2⟩
    · rw [lex_end (by omega)] at h
      refine ⟨[], by simpa using (Prod.mk.inj h).1.symm, fun j hj hk => by omega⟩
theorem lexL_placed {s : List UInt8} {l : List Tok} (h : lexL s = (l, 0, 0)) : Placed s 0 l := by
  obtain ⟨m, h1, h2⟩ := lexS_placed s s.length 0 [] l (by omega) (by rw [List.drop_zero]; exact h)
  rw [h1]; simpa using h2
end Go.Proofs.Ytfainhgonaghfaa
