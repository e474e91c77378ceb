/-
  Plain facts of the model of layer 1: how tokens are parted.
-/
import Derived.Test.YtfainhgonaghfaaLexE
namespace Go.Proofs.Ytfainhgonaghfaa

/-- From st on: the parts follow each other, a sign behind each, no sign within; what is left begins at the last number and holds no sign. -/
def Segs (l : List Tok) : Nat → List (Nat × Nat) → Nat → Prop
  | st, [], last => st = last ∧ ∀ (j : Nat) (t : Tok), l[j]? = some t → st ≤ j → t.kind ≠ 3
  | st, (a, b) :: r, last => a = st ∧ a ≤ b ∧ (∀ (j : Nat) (t : Tok), l[j]? = some t → a ≤ j → j < b → t.kind ≠ 3) ∧ (∃ t, l[b]? = some t ∧ t.kind = 3) ∧ Segs l (b + 1) r last

theorem segs_of (l : List Tok) : ∀ (n k st : Nat), l.length - k ≤ n → st ≤ k → (∀ (j : Nat) (t : Tok), l[j]? = some t → st ≤ j → j < k → t.kind ≠ 3) → Segs l st (segS (l.drop k) k st).1 (segS (l.drop k) k st).2 := by
  intro n
  induction n with
  | zero =>
    intro k st hn hst hj
    rw [seg_end (by omega)]
    refine ⟨rfl, fun j t h hs => hj j t h hs ?_⟩
    have := (List.getElem?_eq_some_iff.1 h).1
    omega
  | succ n ih =>
    intro k st hn hst hj
    by_cases hk : k < l.length
    · have htk : l[k]? = some l[k] := List.getElem?_eq_getElem hk
      by_cases h3 : l[k].kind = 3
      · rw [seg_sign htk h3]
        exact ⟨rfl, hst, hj, ⟨_, htk, h3⟩, ih (k + 1) (k + 1) (by omega) (Nat.le_refl _) (fun j t _ h1 h2 => by omega)⟩
      · rw [seg_other htk h3]
        refine ih (k + 1) st (by omega) (by omega) fun j t h h1 h2 => ?_
        rcases Nat.lt_or_ge j k with hlt | hge
        · exact hj j t h h1 hlt
        · obtain rfl : j = k := by omega
          rw [htk] at h
          injection h with h
          subst h; exact h3
    · rw [seg_end (by omega)]
      refine ⟨rfl, fun j t h hs => hj j t h hs ?_⟩
      have := (List.getElem?_eq_some_iff.1 h).1
      omega
theorem segs_all (l : List Tok) : Segs l 0 (segS l 0 0).1 (segS l 0 0).2 := by
  have := segs_of l l.length 0 0 (by omega) (Nat.le_refl _) (fun j t _ _ h => by omega)
  rwa [List.drop_zero] at this
theorem Segs.behind {l : List Tok} : ∀ {ss : List (Nat × Nat)} {st last : Nat}, Segs l st ss last → ∀ (j : Nat) (t : Tok), l[j]? = some t → last ≤ j → t.kind ≠ 3
  | [], _, _, h => h.1 ▸ h.2
  | (_, _) :: _, _, _, h => Segs.behind h.2.2.2.2
theorem Segs.cons_ {l : List Tok} {ss : List (Nat × Nat)} {p st last : Nat} {s : Nat × Nat} (hp : ss[p]? = some s) (h : Segs l st (ss.drop p) last) :
    s.1 = st ∧ s.1 ≤ s.2 ∧ (∀ (j : Nat) (t : Tok), l[j]? = some t → s.1 ≤ j → j < s.2 → t.kind ≠ 3) ∧ (∃ t, l[s.2]? = some t ∧ t.kind = 3) ∧ Segs l (s.2 + 1) (ss.drop (p + 1)) last := by
  obtain ⟨hp', rfl⟩ := List.getElem?_eq_some_iff.1 hp
  rw [List.drop_eq_getElem_cons hp'] at h
  exact h
theorem segS_few : ∀ (l : List Tok) (k st : Nat), (segS l k st).1.length ≤ l.length
  | [], k, st => by simp [segS]
  | t :: r, k, st => by
    rw [segS]
    by_cases h : t.kind = 3
    · rw [if_pos h]; have := segS_few r (k + 1) (k + 1); simp only [List.length_cons]; omega
    · rw [if_neg h]; have := segS_few r (k + 1) st; simp only [List.length_cons]; omega
end Go.Proofs.Ytfainhgonaghfaa
