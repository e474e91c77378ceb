/-
  The plain model of layer 1: what Lex, Name, Join and Statements answer, as functions on lists of bytes; no Go, no program.
-/
namespace Go.Proofs.Ythbleofighjjgaa

/-- A token: kind, text, value, place. -/
structure Tok where
  kind : Nat
  text : List UInt8
  val : Nat
  loc : Nat

def letB (c : UInt8) : Bool := decide (97 ≤ c.toNat) && decide (c.toNat ≤ 122)
def digB (c : UInt8) : Bool := decide (48 ≤ c.toNat) && decide (c.toNat ≤ 57)
def innB (c : UInt8) : Bool := letB c || digB c || decide (c.toNat = 95)
def gapB (c : UInt8) : Bool := decide (c.toNat = 32) || decide (c.toNat = 10)
def runL (l : List UInt8) : List UInt8 := l.takeWhile innB
def nameL : List UInt8 → Bool
  | [] => false
  | c :: r => decide (r.length < 20) && letB c && r.all innB
def numGo : Nat → List UInt8 → Option Nat
  | v, [] => some v
  | v, c :: r => if digB c then (if v * 10 + (c.toNat - 48) ≤ 1048576 then numGo (v * 10 + (c.toNat - 48)) r else none) else none
def numL : List UInt8 → Option Nat
  | [] => none
  | c :: r => if c.toNat = 48 ∧ r ≠ [] then none else numGo 0 (c :: r)
def wordL (x : List UInt8) (k : Nat) : Option Tok :=
  if nameL x then some ⟨1, x, 0, k⟩ else
  match numL x with
  | some v => some ⟨2, x, v, k⟩
  | none => none
def takeL (r : List UInt8) (k : Nat) : Option Tok :=
  match r with
  | [] => none
  | c :: r' => if c.toNat = 59 then some ⟨3, [c], 0, k⟩ else wordL (runL (c :: r')) k
/-- The tokens from here on: what is left, how many bytes of it are passed over first, the place, the tokens so far. The answer: tokens, place, error. -/
def lexS : List UInt8 → Nat → Nat → List Tok → List Tok × Nat × Nat
  | [], _, _, l => (l, 0, 0)
  | _ :: r, n + 1, k, l => lexS r n (k + 1) l
  | c :: r, 0, k, l =>
    if gapB c then lexS r 0 (k + 1) l else
    match takeL (c :: r) k with
    | none => ([], k, 2)
    | some t => if l.length = 5000 then ([], k, 4) else lexS r (t.text.length - 1) (k + 1) (l ++ [t])
def lexL (s : List UInt8) : List Tok × Nat × Nat := lexS s 0 0 []

theorem lexS_skip : ∀ (r : List UInt8) (n k : Nat) (l : List Tok), n ≤ r.length → lexS r n k l = lexS (r.drop n) 0 (k + n) l
  | _, 0, _, _, _ => by simp
  | [], n + 1, _, _, h => by simp at h
  | c :: r, n + 1, k, l, h => by
    have := lexS_skip r n (k + 1) l (by simpa using h)
    rw [lexS, this, List.drop_succ_cons]
    congr 1
    omega

theorem runL_all (l : List UInt8) : (runL l).all innB = true := by
  unfold runL
  induction l with
  | nil => rfl
  | cons c r ih =>
    rw [List.takeWhile_cons]
    by_cases h : innB c = true
    · simp [h, ih]
    · simp [h]
theorem runL_le (l : List UInt8) : (runL l).length ≤ l.length := (List.takeWhile_prefix _).length_le
theorem runL_cons (c : UInt8) (r : List UInt8) (h : innB c = true) : runL (c :: r) = c :: runL r := by simp [runL, h]
theorem runL_none (c : UInt8) (r : List UInt8) (h : innB c = false) : runL (c :: r) = [] := by simp [runL, h]

theorem run_step (l : List UInt8) : ∀ (k : Nat) (hk : k < l.length), innB l[k] = true → k ≤ (runL l).length → k + 1 ≤ (runL l).length := by
  induction l with
  | nil => intro k hk; simp at hk
  | cons c r ih =>
    intro k hk hin hr
    by_cases hc : innB c = true
    · rw [runL_cons c r hc] at hr ⊢
      cases k with
      | zero => simp
      | succ k => have := ih k (by simpa using hk) (by simpa using hin) (by simpa using hr); simpa using this
    · cases k with
      | zero => exact absurd hin hc
      | succ k => rw [runL_none c r (by simpa using hc)] at hr; simp at hr
theorem run_stop (l : List UInt8) : ∀ (k : Nat), k ≤ (runL l).length → (∀ hk : k < l.length, innB l[k] = false) → runL l = l.take k := by
  induction l with
  | nil => intro k _ _; simp [runL]
  | cons c r ih =>
    intro k hr hs
    by_cases hc : innB c = true
    · rw [runL_cons c r hc] at hr ⊢
      cases k with
      | zero => have := hs (by simp); simp [hc] at this
      | succ k => rw [ih k (by simpa using hr) (fun hk => hs (Nat.succ_lt_succ hk))]; simp
    · rw [runL_none c r (by simpa using hc)] at hr ⊢
      cases k with
      | zero => simp
      | succ k => simp at hr

theorem nameL_cons {x : List UInt8} (h : nameL x = true) : ∃ c r, x = c :: r ∧ r.length < 20 ∧ letB c = true ∧ r.all innB = true := by
  cases x with
  | nil => simp [nameL] at h
  | cons c r => simp only [nameL, Bool.and_eq_true, decide_eq_true_eq] at h; exact ⟨c, r, rfl, h.1.1, h.1.2, h.2⟩
theorem numL_cons {x : List UInt8} {v : Nat} (h : numL x = some v) : ∃ c r, x = c :: r := by
  cases x with
  | nil => simp [numL] at h
  | cons c r => exact ⟨c, r, rfl⟩
theorem wordL_some {x : List UInt8} {k : Nat} {t : Tok} (h : wordL x k = some t) : t.text = x ∧ x ≠ [] ∧ t.loc = k := by
  unfold wordL at h
  by_cases hn : nameL x = true
  · rw [if_pos hn] at h
    obtain ⟨c, r, rfl, _⟩ := nameL_cons hn
    injection h with h; subst h; simp
  · rw [if_neg hn] at h
    cases hv : numL x with
    | none => rw [hv] at h; simp at h
    | some v =>
      rw [hv] at h
      obtain ⟨c, r, rfl⟩ := numL_cons hv
      injection h with h; subst h; simp
theorem takeL_some {r : List UInt8} {k : Nat} {t : Tok} (h : takeL r k = some t) : t.text ≠ [] ∧ t.text = r.take t.text.length ∧ t.loc = k := by
  cases r with
  | nil => simp [takeL] at h
  | cons c r =>
    unfold takeL at h
    simp only at h
    by_cases h59 : c.toNat = 59
    · rw [if_pos h59] at h; injection h with h; subst h; simp
    · rw [if_neg h59] at h
      obtain ⟨h1, h2, h3⟩ := wordL_some h
      refine ⟨h1 ▸ h2, ?_, h3⟩
      rw [h1]
      exact (List.prefix_iff_eq_take.1 (List.takeWhile_prefix _))
theorem takeL_len {r : List UInt8} {k : Nat} {t : Tok} (h : takeL r k = some t) : 1 ≤ t.text.length ∧ t.text.length ≤ r.length := by
  obtain ⟨h1, h2, _⟩ := takeL_some h
  refine ⟨?_, ?_⟩
  · cases ht : t.text with
    | nil => exact absurd ht h1
    | cons c r => simp
  · have := congrArg List.length h2
    rw [List.length_take] at this
    omega

/-- One round of the loop, in the words of places. -/
theorem lex_gap {s : List UInt8} {k : Nat} {l : List Tok} (hk : k < s.length) (hg : gapB s[k] = true) : lexS (s.drop k) 0 k l = lexS (s.drop (k + 1)) 0 (k + 1) l := by
  rw [List.drop_eq_getElem_cons hk, lexS, if_pos hg]
theorem lex_form {s : List UInt8} {k : Nat} {l : List Tok} (hk : k < s.length) (hg : gapB s[k] = false) (ht : takeL (s.drop k) k = none) : lexS (s.drop k) 0 k l = ([], k, 2) := by
  rw [List.drop_eq_getElem_cons hk] at ht ⊢
  rw [lexS, if_neg (by simp [hg]), ht]
theorem lex_many {s : List UInt8} {k : Nat} {l : List Tok} {t : Tok} (hk : k < s.length) (hg : gapB s[k] = false) (ht : takeL (s.drop k) k = some t) (hl : l.length = 5000) : lexS (s.drop k) 0 k l = ([], k, 4) := by
  rw [List.drop_eq_getElem_cons hk] at ht ⊢
  rw [lexS, if_neg (by simp [hg]), ht]
  simp [hl]
theorem lex_tok {s : List UInt8} {k : Nat} {l : List Tok} {t : Tok} (hk : k < s.length) (hg : gapB s[k] = false) (ht : takeL (s.drop k) k = some t) (hl : l.length ≠ 5000) :
    lexS (s.drop k) 0 k l = lexS (s.drop (k + t.text.length)) 0 (k + t.text.length) (l ++ [t]) := by
  obtain ⟨h1, h2⟩ := takeL_len ht
  rw [List.length_drop] at h2
  rw [List.drop_eq_getElem_cons hk] at ht ⊢
  rw [lexS, if_neg (by simp [hg]), ht]
  simp only [hl, if_false]
  rw [lexS_skip _ _ _ _ (by rw [List.length_drop]; omega), List.drop_drop]
  congr 1
  · congr 1; omega
  · omega
theorem lex_end {s : List UInt8} {k : Nat} {l : List Tok} (hk : s.length ≤ k) : lexS (s.drop k) 0 k l = (l, 0, 0) := by
  rw [List.drop_eq_nil_of_le hk, lexS]

end Go.Proofs.Ythbleofighjjgaa
