/-
  Plain facts of the model of layer 1: what an answer looks like; what stands ahead of an error; no Go, no program. Plain facts of the model of layer 1: where tokens stand; no Go, no program. Plain facts of the model of layer 1: tokens that are joined are the same again. The text of a graph that may be has the tokens of its parts again. No program.
-/
import Derived.Test.YtigbceankmfaeaaGreatDoorTaaa
import Derived.Test.YtigbceankmfaeaaGreatDoorTaac
import Derived.Test.YtigbceankmfaeaaGreatDoorTaad
namespace Go.Proofs.YtigbceankmfaeaaGreatDoor
/-- Every answer is tokens, or one of two errors at a place that is there; with few bytes there is no 'too many'. -/
theorem lexS_codes : ∀ (r : List UInt8) (n k : Nat) (l : List Tok), l.length + r.length < 5000 →
    (∃ l', lexS r n k l = (l', 0, 0)) ∨ (∃ k', lexS r n k l = ([], k', 2) ∧ k ≤ k' ∧ k' < k + r.length)
  | [], n, k, l, _ => .inl ⟨l, by simp [lexS]⟩
  | c :: r, n + 1, k, l, h => by
    simp only [List.length_cons] at h
    rcases lexS_codes r n (k + 1) l (by omega) with ⟨l', e⟩ | ⟨k', e, h1, h2⟩
    · exact .inl ⟨l', by rw [lexS]; exact e⟩
    · exact .inr ⟨k', by rw [lexS]; exact e, by omega, by simp only [List.length_cons]; omega⟩
  | c :: r, 0, k, l, h => by
    simp only [List.length_cons] at h
    rw [lexS]
    by_cases hg : gapB c = true
    · rw [if_pos hg]
      rcases lexS_codes r 0 (k + 1) l (by omega) with ⟨l', e⟩ | ⟨k', e, h1, h2⟩
      · exact .inl ⟨l', e⟩
      · exact .inr ⟨k', e, by omega, by simp only [List.length_cons]; omega⟩
    · rw [if_neg hg]
      cases ht : takeL (c :: r) k with
      | none => exact .inr ⟨k, rfl, Nat.le_refl _, by simp⟩
      | some t =>
        simp only
        rw [if_neg (by omega)]
        rcases lexS_codes r (t.text.length - 1) (k + 1) (l ++ [t]) (by simp only [List.length_append, List.length_cons, List.length_nil]; omega) with ⟨l', e⟩ | ⟨k', e, h1, h2⟩
        · exact .inl ⟨l', e⟩
        · exact .inr ⟨k', e, by omega, by simp only [List.length_cons]; omega⟩
theorem lexL_codes (s : List UInt8) (h : s.length < 5000) : (∃ l', lexL s = (l', 0, 0)) ∨ (∃ k', lexL s = ([], k', 2) ∧ k' < s.length) := by
  rcases lexS_codes s 0 0 [] (by simpa using h) with h | ⟨k', h1, _, h2⟩
  · exact .inl h
  · exact .inr ⟨k', h1, by omega⟩
theorem lexS_few : ∀ (r : List UInt8) (n k : Nat) (l l' : List Tok), lexS r n k l = (l', 0, 0) → l'.length ≤ l.length + r.length
  | [], n, k, l, l', h => by simp [lexS] at h; subst h; simp
  | c :: r, n + 1, k, l, l', h => by
    rw [lexS] at h
    have := lexS_few r n (k + 1) l l' h
    simp only [List.length_cons]; omega
  | c :: r, 0, k, l, l', h => by
    rw [lexS] at h
    simp only [List.length_cons]
    by_cases hg : gapB c = true
    · rw [if_pos hg] at h
      have := lexS_few r 0 (k + 1) l l' h
      omega
    · rw [if_neg hg] at h
      cases ht : takeL (c :: r) k with
      | none => rw [ht] at h; simp at h
      | some t =>
        rw [ht] at h
        simp only at h
        by_cases hl : l.length = 5000
        · rw [if_pos hl] at h; simp at h
        · rw [if_neg hl] at h
          have := lexS_few r _ (k + 1) (l ++ [t]) l' h
          simp only [List.length_append, List.length_cons, List.length_nil] at this
          omega
theorem lexL_few {s : List UInt8} {l : List Tok} (hs : s.length < 5000) (h : lexL s = (l, 0, 0)) : l.length ≤ 5000 := by
  have := lexS_few s 0 0 [] l h
  simp at this; omega
/-- A token is passed over whole. -/
theorem lexS_tok {c : UInt8} {r : List UInt8} {k : Nat} {l : List Tok} {t : Tok} (hg : ¬ gapB c = true) (ht : takeL (c :: r) k = some t) (hl : l.length ≠ 5000) :
    lexS (c :: r) 0 k l = lexS ((c :: r).drop t.text.length) 0 (k + t.text.length) (l ++ [t]) := by
  obtain ⟨h1, h2⟩ := takeL_len ht
  simp only [List.length_cons] at h2
  rw [lexS, if_neg hg, ht]
  simp only [hl, if_false]
  rw [lexS_skip _ _ _ _ (by omega)]
  obtain ⟨m, hm⟩ : ∃ m, t.text.length = m + 1 := ⟨t.text.length - 1, by omega⟩
  rw [hm, List.drop_succ_cons]
  congr 1
  omega
end Go.Proofs.YtigbceankmfaeaaGreatDoor

namespace Go.Proofs.YtigbceankmfaeaaGreatDoor
/-- From place k on: the tokens stand where they say, nothing but blanks and line feeds between and behind. -/
def Placed (s : List UInt8) : Nat → List Tok → Prop
  | k, [] => ∀ (j : Nat) (h : j < s.length), k ≤ j → gapB s[j] = true
  | k, t :: r => k ≤ t.loc ∧ t.loc + t.text.length ≤ s.length ∧ (s.drop t.loc).take t.text.length = t.text ∧ t.text ≠ [] ∧ (∀ (j : Nat) (h : j < s.length), k ≤ j → j < t.loc → gapB s[j] = true) ∧ Placed s (t.loc + t.text.length) r
theorem Placed.gap {s : List UInt8} {k : Nat} {l : List Tok} (hk : k < s.length) (hg : gapB s[k] = true) (h : Placed s (k + 1) l) : Placed s k l := by
  cases l with
  | nil =>
    intro j hj hkj
    rcases Nat.eq_or_lt_of_le hkj with rfl | hlt
    · exact hg
    · exact h j hj hlt
  | cons t r =>
    obtain ⟨h1, h2, h3, h4, h5, h6⟩ := h
    refine ⟨by omega, h2, h3, h4, fun j hj hkj hjt => ?_, h6⟩
    rcases Nat.eq_or_lt_of_le hkj with rfl | hlt
    · exact hg
    · exact h5 j hj hlt hjt
theorem lexS_placed (s : List UInt8) : ∀ (n k : Nat) (l l' : List Tok), s.length - k ≤ n → lexS (s.drop k) 0 k l = (l', 0, 0) → ∃ m, l' = l ++ m ∧ Placed s k m := by
  intro n
  induction n with
  | zero =>
    intro k l l' hn h
    rw [lex_end (by omega)] at h
    refine ⟨[], by simpa using (Prod.mk.inj h).1.symm, fun j hj hk => by omega⟩
  | succ n ih =>
    intro k l l' hn h
    by_cases hk : k < s.length
    · by_cases hg : gapB s[k] = true
      · rw [lex_gap hk hg] at h
        obtain ⟨m, h1, h2⟩ := ih (k + 1) l l' (by omega) h
        exact ⟨m, h1, h2.gap hk hg⟩
      · have hg' : gapB s[k] = false := by simpa using hg
        cases ht : takeL (s.drop k) k with
        | none => rw [lex_form hk hg' ht] at h; simp at h
        | some t =>
          by_cases hl : l.length = 5000
          · rw [lex_many hk hg' ht hl] at h; simp at h
          · rw [lex_tok hk hg' ht hl] at h
            obtain ⟨t1, t2⟩ := takeL_len ht
            obtain ⟨t3, t4, t5⟩ := takeL_some ht
            rw [List.length_drop] at t2
            obtain ⟨m, h1, h2⟩ := ih (k + t.text.length) (l ++ [t]) l' (by omega) h
            refine ⟨t :: m, by rw [h1]; simp, ?_⟩
            subst t5
            exact ⟨Nat.le_refl _, by omega, t4.symm, t3, fun j hj h1 h2 => by omega, h2⟩
    · rw [lex_end (by omega)] at h
      refine ⟨[], by simpa using (Prod.mk.inj h).1.symm, fun j hj hk => by omega⟩
theorem lexL_placed {s : List UInt8} {l : List Tok} (h : lexL s = (l, 0, 0)) : Placed s 0 l := by
  obtain ⟨m, h1, h2⟩ := lexS_placed s s.length 0 [] l (by omega) (by rw [List.drop_zero]; exact h)
  rw [h1]; simpa using h2
end Go.Proofs.YtigbceankmfaeaaGreatDoor

namespace Go.Proofs.YtigbceankmfaeaaGreatDoor
theorem s59 {c : UInt8} (h : c.toNat = 59) : c = 59 := UInt8.toNat_inj.1 h
/-- What a token is, but for its place. -/
def bare (t : Tok) : Nat × List UInt8 × Nat := (t.kind, t.text, t.val)
/-- A token whose text, alone, is that token. -/
def Own (t : Tok) : Prop := (t.kind = 3 ∧ t.text = [59] ∧ t.val = 0) ∨ (t.text.all innB = true ∧ wordL t.text t.loc = some t)
theorem wordL_at {x : List UInt8} {k k' : Nat} {t : Tok} (h : wordL x k = some t) : wordL x k' = some ⟨t.kind, t.text, t.val, k'⟩ := by
  unfold wordL at h ⊢
  by_cases hn : nameL x = true
  · rw [if_pos hn] at h ⊢; injection h with h; subst h; rfl
  · rw [if_neg hn] at h ⊢
    cases hv : numL x with
    | none => rw [hv] at h; simp at h
    | some v => rw [hv] at h; injection h with h; subst h; rfl
theorem takeL_own {r : List UInt8} {k : Nat} {t : Tok} (h : takeL r k = some t) : Own t := by
  cases r with
  | nil => simp [takeL] at h
  | cons c r =>
    unfold takeL at h
    simp only at h
    by_cases h59 : c.toNat = 59
    · rw [if_pos h59] at h
      injection h with h; subst h
      left
      refine ⟨rfl, ?_, rfl⟩
      show [c] = [59]
      rw [s59 h59]
    · rw [if_neg h59] at h
      obtain ⟨h1, _, h3⟩ := wordL_some h
      right
      rw [h1, h3]
      exact ⟨runL_all _, h⟩
theorem lexS_own : ∀ (r : List UInt8) (n k : Nat) (l l' : List Tok), lexS r n k l = (l', 0, 0) → (∀ t ∈ l, Own t) → ∀ t ∈ l', Own t
  | [], n, k, l, l', h, ho => by simp [lexS] at h; subst h; exact ho
  | c :: r, n + 1, k, l, l', h, ho => by rw [lexS] at h; exact lexS_own r n (k + 1) l l' h ho
  | c :: r, 0, k, l, l', h, ho => by
    rw [lexS] at h
    by_cases hg : gapB c = true
    · rw [if_pos hg] at h; exact lexS_own r 0 (k + 1) l l' h ho
    · rw [if_neg hg] at h
      cases ht : takeL (c :: r) k with
      | none => rw [ht] at h; simp at h
      | some t =>
        rw [ht] at h
        simp only at h
        by_cases hl : l.length = 5000
        · rw [if_pos hl] at h; simp at h
        · rw [if_neg hl] at h
          refine lexS_own r _ (k + 1) (l ++ [t]) l' h fun x hx => ?_
          rw [List.mem_append, List.mem_singleton] at hx
          rcases hx with hx | rfl
          · exact ho x hx
          · exact takeL_own ht
theorem runL_app : ∀ (x y : List UInt8), x.all innB = true → (∀ c r, y = c :: r → innB c = false) → runL (x ++ y) = x
  | [], y, _, hy => by
    cases y with
    | nil => rfl
    | cons c r => rw [List.nil_append, runL_none c r (hy c r rfl)]
  | a :: x, y, hx, hy => by
    rw [List.all_cons, Bool.and_eq_true] at hx
    rw [List.cons_append, runL_cons a _ hx.1, runL_app x y hx.2 hy]
theorem inn_not59 {c : UInt8} (h : innB c = true) : ¬ c.toNat = 59 := by
  intro e
  simp [innB, letB, digB, e] at h
theorem inn_notgap {c : UInt8} (h : innB c = true) : ¬ gapB c = true := by
  intro e
  simp [innB, letB, digB, gapB] at h e
  omega
/-- The text of an own token that is no sign, with something behind it that parts. -/
theorem takeL_word {t : Tok} {y : List UInt8} (k : Nat) (hx : t.text.all innB = true) (hw : wordL t.text t.loc = some t) (hy : ∀ c r, y = c :: r → innB c = false) :
    takeL (t.text ++ y) k = some ⟨t.kind, t.text, t.val, k⟩ := by
  have hr := runL_app t.text y hx hy
  have hw' := wordL_at (k' := k) hw
  obtain ⟨_, hne, _⟩ := wordL_some hw
  cases ht : t.text with
  | nil => exact absurd ht hne
  | cons c x =>
    rw [ht] at hr hw' hx
    rw [List.all_cons, Bool.and_eq_true] at hx
    rw [List.cons_append] at hr ⊢
    simp only [takeL]
    rw [if_neg (inn_not59 hx.1), hr]
    exact hw'
theorem join_parts (l : List Tok) : ∀ c r, joinS false l = c :: r → (∀ t ∈ l, Own t) → innB c = false := by
  intro c r h ho
  cases l with
  | nil => simp [joinS] at h
  | cons t l =>
    rw [joinS] at h
    rcases ho t (by simp) with ⟨_, h2, _⟩ | ⟨h1, h2⟩
    · rw [h2] at h
      simp at h
      rw [← h.1]; rfl
    · have h59 : (t.text == [59]) = false := by
        rw [beq_eq_false_iff_ne]
        intro e
        rw [e] at h1
        simp [innB, letB, digB] at h1
      rw [h59] at h
      simp at h
      rw [← h.1]; rfl
theorem lexS_gap {c : UInt8} {r : List UInt8} {k : Nat} {l : List Tok} (hg : gapB c = true) : lexS (c :: r) 0 k l = lexS r 0 (k + 1) l := by rw [lexS, if_pos hg]
/-- TOKENS THAT ARE JOINED ARE THE SAME AGAIN, but for their places. -/
theorem join_back : ∀ (l : List Tok) (p : Bool) (k : Nat) (acc : List Tok), (∀ t ∈ l, Own t) → acc.length + l.length ≤ 5000 →
    ∃ l', lexS (joinS p l) 0 k acc = (acc ++ l', 0, 0) ∧ l'.map bare = l.map bare
  | [], p, k, acc, _, _ => ⟨[], by simp [joinS, lexS], rfl⟩
  | t :: l, p, k, acc, ho, hl => by
    simp only [List.length_cons] at hl
    have ho' : ∀ x ∈ l, Own x := fun x hx => ho x (by simp [hx])
    rcases ho t (by simp) with ⟨h1, h2, h3⟩ | ⟨h1, h2⟩
    · have e : joinS p (t :: l) = 59 :: 10 :: joinS true l := by
        rw [joinS, h2]; simp
      have ht : takeL (59 :: 10 :: joinS true l) k = some ⟨3, [59], 0, k⟩ := by rfl
      rw [e, lexS_tok (by decide) ht (by omega)]
      show ∃ l', lexS (10 :: joinS true l) 0 (k + 1) (acc ++ [⟨3, [59], 0, k⟩]) = _ ∧ _
      rw [lexS_gap (by decide)]
      obtain ⟨l', h4, h5⟩ := join_back l true (k + 1 + 1) (acc ++ [⟨3, [59], 0, k⟩]) ho' (by simp only [List.length_append, List.length_cons, List.length_nil]; omega)
      refine ⟨⟨3, [59], 0, k⟩ :: l', by rw [h4]; simp, ?_⟩
      rw [List.map_cons, List.map_cons, h5]
      simp [bare, h1, h2, h3]
    · have h59 : (t.text == [59]) = false := by
        rw [beq_eq_false_iff_ne]
        intro e
        rw [e] at h1
        simp [innB, letB, digB] at h1
      have word : ∀ k, ∃ l', lexS (t.text ++ joinS false l) 0 k acc = (acc ++ l', 0, 0) ∧ l'.map bare = (t :: l).map bare := by
        intro k
        have ht := takeL_word k h1 h2 (fun c r e => join_parts l c r e ho')
        obtain ⟨_, hne, _⟩ := wordL_some h2
        cases hx : t.text with
        | nil => exact absurd hx hne
        | cons c x =>
          rw [hx] at ht h1
          rw [List.all_cons, Bool.and_eq_true] at h1
          rw [List.cons_append] at ht ⊢
          rw [lexS_tok (inn_notgap h1.1) ht (by omega)]
          simp only
          rw [← List.cons_append, List.drop_left]
          obtain ⟨l', h4, h5⟩ := join_back l false (k + (c :: x).length) (acc ++ [⟨t.kind, c :: x, t.val, k⟩]) ho' (by simp only [List.length_append, List.length_cons, List.length_nil]; omega)
          refine ⟨⟨t.kind, c :: x, t.val, k⟩ :: l', by rw [h4]; simp, ?_⟩
          rw [List.map_cons, List.map_cons, h5]
          simp [bare, hx]
      cases p with
      | true =>
        have e : joinS true (t :: l) = t.text ++ joinS false l := by rw [joinS, h59]; simp
        rw [e]; exact word k
      | false =>
        have e : joinS false (t :: l) = 32 :: (t.text ++ joinS false l) := by rw [joinS, h59]; simp
        rw [e, lexS_gap (by decide)]; exact word (k + 1)
theorem join_size : ∀ (l : List Tok) (p : Bool), (joinS p l).length ≤ (l.map fun t => t.text.length).sum + 2 * l.length
  | [], _ => by simp [joinS]
  | t :: l, p => by
    have := join_size l (t.text == [59])
    rw [joinS]
    simp only [List.length_append, List.map_cons, List.sum_cons, List.length_cons]
    have h1 : (if (!p && !(t.text == [59])) = true then [32] else ([] : List UInt8)).length + (if (t.text == [59]) = true then [10] else ([] : List UInt8)).length ≤ 1 := by
      cases p <;> cases (t.text == [59]) <;> simp
    omega
theorem Placed.sum {s : List UInt8} : ∀ {l : List Tok} {k : Nat}, Placed s k l → k ≤ s.length → (l.map fun t => t.text.length).sum + k ≤ s.length
  | [], k, _, hk => by simpa using hk
  | t :: l, k, h, _ => by
    obtain ⟨h1, h2, _, _, _, h6⟩ := h
    have := Placed.sum h6 h2
    simp only [List.map_cons, List.sum_cons]
    omega
end Go.Proofs.YtigbceankmfaeaaGreatDoor

namespace Go.Proofs.YtigbceankmfaeaaGreatDoor.P3
theorem numGo_snoc : ∀ (a : List UInt8) (v : Nat) (c : UInt8), numGo v (a ++ [c]) = (numGo v a).bind fun u => if digB c then (if u * 10 + (c.toNat - 48) ≤ 1048576 then some (u * 10 + (c.toNat - 48)) else none) else none
  | [], v, c => by simp [numGo]
  | x :: r, v, c => by
    rw [List.cons_append, numGo, numGo]
    split
    · split
      · exact numGo_snoc r _ c
      · rfl
    · rfl
theorem dig_facts : ∀ m : Fin 10, digB (UInt8.ofNat (48 + m.val)) = true ∧ (UInt8.ofNat (48 + m.val)).toNat - 48 = m.val ∧ letB (UInt8.ofNat (48 + m.val)) = false ∧ ((UInt8.ofNat (48 + m.val)).toNat = 48 → m.val = 0) := by decide
theorem numGo_dig (n : Nat) : n ≤ 1048576 → numGo 0 (digL n) = some n := by
  induction n using Nat.strongRecOn with
  | ind n ih =>
    intro h
    rw [digL]
    split
    · rename_i h10
      obtain ⟨a, b, _⟩ := dig_facts ⟨n, h10⟩
      simp only at a b
      generalize UInt8.ofNat (48 + n) = c at *
      simp [numGo, a, b, h]
    · rename_i h10
      obtain ⟨a, b, _⟩ := dig_facts ⟨n % 10, Nat.mod_lt _ (by omega)⟩
      simp only at a b
      have e : n / 10 * 10 + n % 10 = n := by omega
      rw [numGo_snoc, ih (n / 10) (by omega) (by omega)]
      generalize UInt8.ofNat (48 + n % 10) = c at *
      simp [a, b, e, h]
theorem dig_head (n : Nat) : ∃ c r, digL n = c :: r ∧ letB c = false ∧ (c.toNat = 48 → n = 0) ∧ (n = 0 → r = []) := by
  induction n using Nat.strongRecOn with
  | ind n ih =>
    rw [digL]
    split
    · rename_i h10
      obtain ⟨_, _, a, b⟩ := dig_facts ⟨n, h10⟩
      exact ⟨_, [], rfl, a, b, fun _ => rfl⟩
    · rename_i h10
      obtain ⟨c, r, e, a, b, _⟩ := ih (n / 10) (by omega)
      exact ⟨c, r ++ [UInt8.ofNat (48 + n % 10)], by rw [e]; rfl, a, fun h => by have := b h; omega, fun h => by omega⟩
theorem dig_all (n : Nat) : (digL n).all innB = true := by
  induction n using Nat.strongRecOn with
  | ind n ih =>
    have hi : ∀ m : Fin 10, innB (UInt8.ofNat (48 + m.val)) = true := by decide
    rw [digL]
    split
    · rename_i h10
      have := hi ⟨n, h10⟩
      simp only at this
      generalize UInt8.ofNat (48 + n) = c at *
      simp [this]
    · rename_i h10
      have := hi ⟨n % 10, Nat.mod_lt _ (by omega)⟩
      simp only at this
      rw [List.all_append, ih (n / 10) (by omega)]
      generalize UInt8.ofNat (48 + n % 10) = c at *
      simp [this]
theorem word_dig {n : Nat} (h : n ≤ 1048576) (k : Nat) : wordL (digL n) k = some ⟨2, digL n, n, k⟩ := by
  obtain ⟨c, r, e, a, b, d⟩ := dig_head n
  have hn : nameL (digL n) = false := by rw [e]; simp [nameL, a]
  have hv : numL (digL n) = some n := by
    rw [← numGo_dig n h, e]
    exact if_neg fun ⟨h1, h2⟩ => h2 (d (b h1))
  unfold wordL
  rw [hn, hv]; rfl
def tok3 (t : B3) : Tok := ⟨t.1, t.2.1, t.2.2, 0⟩
def sgn : B3 := (3, [59], 0)
theorem own_kw {x : Key} (h : nameL x = true) : Own (tok3 (kwT x)) := by
  right
  refine ⟨?_, ?_⟩
  · obtain ⟨c, r, rfl, _, h1, h2⟩ := nameL_cons h
    show (c :: r).all innB = true
    rw [List.all_cons, h2]
    simp [innB, h1]
  · show wordL x 0 = some ⟨1, x, 0, 0⟩
    unfold wordL
    rw [if_pos h]
theorem own_nu {n : Nat} (h : n ≤ 1048576) : Own (tok3 (nuT n)) := .inr ⟨dig_all n, word_dig h 0⟩
theorem own_sgn : Own (tok3 sgn) := .inl ⟨rfl, rfl, rfl⟩
theorem kws_name : ∀ x ∈ kws, nameL x = true := by decide
theorem own_k {x : Key} (h : x ∈ kws) : Own (tok3 (kwT x)) := own_kw (kws_name x h)
theorem own_n {x : Key} (h : nameK x = true) : Own (tok3 (kwT x)) := own_kw (nameK_L h)
/-- A graph's statements. -/
def linesT (g : Gr) : List (List B3) := g.gs.map gpT ++ (g.es.map evT ++ (g.rs.map rlT ++ g.us.map usT))
def toksT (g : Gr) : List B3 := (linesT g).flatMap fun l => l ++ [sgn]
theorem opt_txt (l : List (List UInt8)) (w n : List UInt8) : optB l w n = l ++ (optT w n).map (·.2.1) := by unfold optB optT; split <;> simp [kwT]
theorem gp_txt (p : Gp) : (gpT p).map (·.2.1) = gpW p := by unfold gpT gpW; rw [opt_txt]; simp [kwT]
theorem ev_txt (v : Ev) : (evT v).map (·.2.1) = evW v := by
  unfold evT evW
  rw [opt_txt]
  have hd : (dueT v.due).map (·.2.1) = dueW v.due := by unfold dueT dueW; split <;> (try split) <;> rfl
  simp only [List.map_append, hd, List.append_assoc]
  cases v.inn <;> cases v.done <;> rfl
theorem rl_txt (r : Rl) : (rlT r).map (·.2.1) = rlW r := by
  unfold rlT rlW timeT
  rw [List.map_append]
  split <;> rfl
theorem us_txt (u : Us) : (usT u).map (·.2.1) = usW u := by
  unfold usT usW
  rw [opt_txt, List.map_append, List.map_append, List.map_map, List.append_assoc]
  rfl
theorem lines_txt (g : Gr) : (linesT g).map (fun l => l.map (·.2.1)) = linesW g := by
  unfold linesT linesW
  simp only [List.map_append, List.map_map]
  congr 1
  · exact List.map_congr_left fun p _ => gp_txt p
  congr 1
  · exact List.map_congr_left fun p _ => ev_txt p
  congr 1
  · exact List.map_congr_left fun p _ => rl_txt p
  · exact List.map_congr_left fun p _ => us_txt p
theorem join_txt : ∀ (l l' : List Tok) (p : Bool), l'.map Tok.text = l.map Tok.text → joinS p l' = joinS p l
  | [], [], _, _ => rfl
  | [], _ :: _, _, h => by simp at h
  | _ :: _, [], _, h => by simp at h
  | t :: l, t' :: l', p, h => by
    rw [List.map_cons, List.map_cons] at h
    injection h with h1 h2
    rw [joinS, joinS, h1, join_txt l l' _ h2]
theorem toks_txt (g : Gr) : ((toksT g).map tok3).map Tok.text = (printT g).map Tok.text := by
  unfold toksT printT
  rw [← lines_txt]
  simp only [List.map_flatMap, List.flatMap_map]
  congr 1
  funext l
  simp [lineT, tok3, sgn]
theorem toks_len {g : Gr} (h : MayOk g) : (toksT g).length ≤ 3140 := by
  have := congrArg List.length (toks_txt g)
  simp only [List.length_map] at this
  rw [this]; exact h.toks
theorem own_all {g : Gr} (h : MayOk g) : ∀ t ∈ (toksT g).map tok3, Own t := by
  intro t ht
  obtain ⟨b, hb, rfl⟩ := List.mem_map.1 ht
  obtain ⟨l, hl, hb⟩ := List.mem_flatMap.1 hb
  rcases List.mem_append.1 hb with hb | hb
  rotate_left
  · rw [List.mem_singleton.1 hb]; exact own_sgn
  have opt : ∀ (w : Key) (n : List UInt8), w ∈ kws → (n = [] ∨ nameK n = true) → ∀ b ∈ optT w n, Own (tok3 b) := by
    intro w n hw hn b hb
    unfold optT at hb
    split at hb
    · cases hb
    · rename_i h0
      simp only [List.mem_cons, List.not_mem_nil, or_false] at hb
      rcases hb with rfl | rfl
      · exact own_k hw
      · exact own_n (hn.resolve_left h0)
  unfold linesT at hl
  rcases List.mem_append.1 hl with hl | hl
  · obtain ⟨p, hp, rfl⟩ := List.mem_map.1 hl
    obtain ⟨h1, h2⟩ := h.gs p hp
    unfold gpT at hb
    rcases List.mem_append.1 hb with hb | hb
    · simp only [List.mem_cons, List.not_mem_nil, or_false] at hb
      rcases hb with rfl | rfl
      · exact own_k (by decide)
      · exact own_n h1
    · exact opt _ _ (by decide) h2 b hb
  rcases List.mem_append.1 hl with hl | hl
  · obtain ⟨v, hv, rfl⟩ := List.mem_map.1 hl
    obtain ⟨h1, h2, h3, h4, h5⟩ := h.es v hv
    unfold evT at hb
    simp only [List.mem_append] at hb
    rcases hb with hb | hb | hb | hb | hb | hb
    · simp only [List.mem_cons, List.not_mem_nil, or_false] at hb
      rcases hb with rfl | rfl
      · exact own_k (by decide)
      · exact own_n h1
    · exact opt _ _ (by decide) h3 b hb
    · simp only [List.mem_cons, List.not_mem_nil, or_false] at hb
      rcases hb with rfl | rfl
      · exact own_k (by decide)
      · exact own_n h2
    · split at hb
      · cases hb
      · rw [List.mem_singleton.1 hb]; exact own_k (by decide)
    · split at hb
      · rw [List.mem_singleton.1 hb]; exact own_k (by decide)
      · cases hb
    · unfold dueT at hb
      split at hb
      · cases hb
      · split at hb
        · rw [List.mem_singleton.1 hb]; exact own_k (by decide)
        · simp only [List.mem_cons, List.not_mem_nil, or_false] at hb
          rcases hb with rfl | rfl
          · exact own_k (by decide)
          · exact own_nu (by omega)
  rcases List.mem_append.1 hl with hl | hl
  · obtain ⟨r, hr, rfl⟩ := List.mem_map.1 hl
    obtain ⟨k1, k2, h1, h2, t1, t2⟩ := h.rs r hr
    unfold rlT timeT at hb
    rcases List.mem_append.1 hb with hb | hb
    · simp only [List.mem_cons, List.not_mem_nil, or_false] at hb
      rcases hb with rfl | rfl | rfl
      · exact own_k (kwB_in _)
      · exact own_n h1
      · exact own_n h2
    · split at hb
      · cases hb
      · rw [List.mem_singleton.1 hb]
        refine own_nu ?_
        unfold longL at t2
        split at t2
        · omega
        · split at t2 <;> omega
  · obtain ⟨u, hu, rfl⟩ := List.mem_map.1 hl
    obtain ⟨h1, h2, h3, _⟩ := h.us u hu
    unfold usT at hb
    simp only [List.mem_append] at hb
    rcases hb with hb | hb | hb
    · simp only [List.mem_cons, List.not_mem_nil, or_false] at hb
      rcases hb with rfl | rfl | rfl
      · exact own_k (by decide)
      · exact own_n h1
      · exact own_k (by decide)
    · obtain ⟨r, hr, rfl⟩ := List.mem_map.1 hb
      exact own_n (h2 r hr)
    · exact opt _ _ (by decide) h3 b hb
/-- The text of a graph that may be has its parts' tokens, and no others. -/
theorem lex_print {g : Gr} (h : MayOk g) : ∃ l', lexL (printB g) = (l', 0, 0) ∧ l'.map bare = toksT g := by
  have e : printB g = joinS true ((toksT g).map tok3) := by rw [← print_join h.names]; exact (join_txt _ _ _ (toks_txt g)).symm
  obtain ⟨l', h1, h2⟩ := join_back ((toksT g).map tok3) true 0 [] (own_all h) (by have := toks_len h; simp; omega)
  refine ⟨l', ?_, ?_⟩
  · rw [e]; exact h1
  · rw [h2, List.map_map]
    exact List.map_id _
end Go.Proofs.YtigbceankmfaeaaGreatDoor.P3
