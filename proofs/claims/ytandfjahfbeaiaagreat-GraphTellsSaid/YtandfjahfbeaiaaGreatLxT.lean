/-
  Plain facts of the model of layer 1 that the document's own Lex and Name need, where package lex's Lex is not reached. (made by wip/tools/mklxt.py)
-/
import Derived.Test.YtandfjahfbeaiaaGreatGrHa
import Derived.Test.YtandfjahfbeaiaaGreatLexP
namespace Go.Proofs.YtandfjahfbeaiaaGreat
open Go.RowKit

def semiB : List UInt8 → Bool
  | [] => false
  | c :: _ => decide (c.toNat = 59)
theorem u8_eq {c : UInt8} {n : Nat} (h : n < 256) : c = UInt8.ofNat n ↔ c.toNat = n := by
  constructor
  · rintro rfl; simp; omega
  · intro e; apply UInt8.toNat_inj.1; simp; omega
theorem bytes_eq {t : ByteArray} {l : List UInt8} (h : t.data.toList = l) : t = ⟨l.toArray⟩ := by subst h; simp
theorem take_semi {s : ByteArray} {k : Nat} (hk : k < s.size) (h : semiB (s.data.toList.drop k) = true) : takeL (s.data.toList.drop k) k = some ⟨3, [59], 0, k⟩ := by
  rw [List.drop_eq_getElem_cons (by simpa using hk)] at h ⊢
  simp only [semiB, decide_eq_true_eq] at h
  simp only [takeL, h, if_true]
  rw [(u8_eq (n := 59) (by omega)).2 h]; rfl
def tokC (t : Tok) : List Value := [.int .i64 t.kind, .string ⟨t.text.toArray⟩, .int .i64 t.val, .int .i64 t.loc]
def rowC (l : List Tok) : List Value := l.flatMap tokC
theorem rowC_length (l : List Tok) : (rowC l).length = l.length * 4 := by
  induction l with
  | nil => rfl
  | cons t r ih => simp only [rowC, List.flatMap_cons, List.length_append, List.length_cons] at ih ⊢; rw [ih]; simp [tokC]; omega
theorem rowC_snoc (l : List Tok) (t : Tok) : rowC (l ++ [t]) = rowC l ++ tokC t := by simp [rowC]
theorem own_apart {w : World} {B e z n : Nat} {v : Value} {xs : List Value} (h : w.ownsRow B e z v n xs) {k : Nat} (hk : w.heap.size ≤ k) : some k ≠ v.ownBlock := by
  intro e; have := (h.lt k e.symm).2; omega
def Toks (w : World) (A : Option Addr) (n : Nat) (l : List Tok) : Prop :=
  n = l.length ∧ (0 < n → ∃ b off, A = some ⟨b, off, none⟩ ∧ b < w.heap.size ∧ ∀ j u, (rowC l)[j]? = some u → w.cell? ⟨b, off + j, none⟩ = some u)
theorem Toks.below {w w' : World} {A : Option Addr} {n : Nat} {l : List Tok} (h : Toks w A n l) (hb : Below w.heap.size w w') : Toks w' A n l := by
  refine ⟨h.1, fun hn => ?_⟩
  obtain ⟨b, off, h1, h2, h3⟩ := h.2 hn
  exact ⟨b, off, h1, by have := hb.size; omega, fun j u hu => (hb.cell (p := ⟨b, off + j, none⟩) h2).trans (h3 j u hu)⟩
theorem Toks.of_own {w : World} {B e : Nat} {A : Option Addr} {n c : Nat} {l : List Tok} (h : w.ownsRow B e 4 (.slice A n c) l.length (rowC l)) : Toks w A n l := by
  rcases h.2 with ⟨hv, h0⟩ | ⟨g, cap, cur, hv, _, hg, _⟩
  · injection hv with h1 h2 h3
    exact ⟨by omega, fun hn => by omega⟩
  · injection hv with h1 h2 h3
    subst h1
    refine ⟨h2, fun _ => ⟨g, 0, rfl, (Array.getElem?_eq_some_iff.1 hg).1, fun j u hu => ?_⟩⟩
    have := h.cells (g := g) rfl j u hu
    rw [Addr.add_lit] at this
    exact this
theorem rowC_at (l : List Tok) : ∀ (k : Nat) (hk : k < l.length), (rowC l)[k * 4]? = some (.int .i64 l[k].kind) ∧ (rowC l)[k * 4 + 1]? = some (.string ⟨l[k].text.toArray⟩) ∧ (rowC l)[k * 4 + 2]? = some (.int .i64 l[k].val) ∧ (rowC l)[k * 4 + 3]? = some (.int .i64 l[k].loc) := by
  induction l with
  | nil => intro k hk; simp at hk
  | cons t r ih =>
    intro k hk
    cases k with
    | zero => exact ⟨rfl, rfl, rfl, rfl⟩
    | succ k =>
      have := ih k (by simpa using hk)
      have e : rowC (t :: r) = tokC t ++ rowC r := by simp [rowC]
      have h4 : (tokC t).length = 4 := rfl
      simp only [List.getElem_cons_succ]
      rw [e]
      refine ⟨?_, ?_, ?_, ?_⟩
      all_goals rw [List.getElem?_append_right (by rw [h4]; omega), h4]
      · rw [show (k + 1) * 4 - 4 = k * 4 from by omega]; exact this.1
      · rw [show (k + 1) * 4 + 1 - 4 = k * 4 + 1 from by omega]; exact this.2.1
      · rw [show (k + 1) * 4 + 2 - 4 = k * 4 + 2 from by omega]; exact this.2.2.1
      · rw [show (k + 1) * 4 + 3 - 4 = k * 4 + 3 from by omega]; exact this.2.2.2
theorem Toks.at_ {w : World} {A : Option Addr} {n k : Nat} {l : List Tok} (h : Toks w A n l) (hk : k < n) : ∃ b off t x, A = some ⟨b, off, none⟩ ∧ b < w.heap.size ∧ l[k]? = some t ∧ x = (⟨t.text.toArray⟩ : ByteArray) ∧
    w.cell? ⟨b, off + k * 4, none⟩ = some (.int .i64 t.kind) ∧ w.cell? ⟨b, off + k * 4 + 1, none⟩ = some (.string x) ∧ w.cell? ⟨b, off + k * 4 + 2, none⟩ = some (.int .i64 t.val) ∧ w.cell? ⟨b, off + k * 4 + 3, none⟩ = some (.int .i64 t.loc) := by
  obtain ⟨b, off, h1, h2, h3⟩ := h.2 (by omega)
  have hk' : k < l.length := by have := h.1; omega
  obtain ⟨c0, c1, c2, c3⟩ := rowC_at l k hk'
  exact ⟨b, off, l[k], _, h1, h2, List.getElem?_eq_getElem hk', rfl, h3 _ _ c0, by rw [Nat.add_assoc]; exact h3 _ _ c1, by rw [Nat.add_assoc]; exact h3 _ _ c2, by rw [Nat.add_assoc]; exact h3 _ _ c3⟩
def Own (t : Tok) : Prop := (t.kind = 3 ∧ t.text = [59] ∧ t.val = 0) ∨ (t.text.all innB = true ∧ wordL t.text t.loc = some t)
theorem wordL_at {x : List UInt8} {k k' : Nat} {t : Tok} (h : wordL x k = some t) : wordL x k' = some ⟨t.kind, t.text, t.val, k'⟩ := by
  unfold wordL at h ⊢
  by_cases hn : nameL x = true
  · rw [if_pos hn] at h ⊢; injection h with h; subst h; rfl
  · rw [if_neg hn] at h ⊢
    cases hv : numL x with
    | none => rw [hv] at h; simp at h
    | some v => rw [hv] at h; injection h with h; subst h; rfl
theorem takeL_own {r : List UInt8} {k : Nat} {t : Tok} (h : takeL r k = some t) : Own t := by
  cases r with
  | nil => simp [takeL] at h
  | cons c r =>
    unfold takeL at h
    simp only at h
    by_cases h59 : c.toNat = 59
    · rw [if_pos h59] at h
      injection h with h; subst h
      left
      refine ⟨rfl, ?_, rfl⟩
      show [c] = [59]
      rw [(u8_eq (c := c) (n := 59) (by omega)).2 h59]; rfl
    · rw [if_neg h59] at h
      obtain ⟨h1, _, h3⟩ := wordL_some h
      right
      rw [h1, h3]
      exact ⟨runL_all _, h⟩
theorem lexS_own : ∀ (r : List UInt8) (n k : Nat) (l l' : List Tok), lexS r n k l = (l', 0, 0) → (∀ t ∈ l, Own t) → ∀ t ∈ l', Own t
  | [], n, k, l, l', h, ho => by simp [lexS] at h; subst h; exact ho
  | c :: r, n + 1, k, l, l', h, ho => by rw [lexS] at h; exact lexS_own r n (k + 1) l l' h ho
  | c :: r, 0, k, l, l', h, ho => by
    rw [lexS] at h
    by_cases hg : gapB c = true
    · rw [if_pos hg] at h; exact lexS_own r 0 (k + 1) l l' h ho
    · rw [if_neg hg] at h
      cases ht : takeL (c :: r) k with
      | none => rw [ht] at h; simp at h
      | some t =>
        rw [ht] at h
        simp only at h
        by_cases hl : l.length = 5000
        · rw [if_pos hl] at h; simp at h
        · rw [if_neg hl] at h
          refine lexS_own r _ (k + 1) (l ++ [t]) l' h fun x hx => ?_
          rw [List.mem_append, List.mem_singleton] at hx
          rcases hx with hx | rfl
          · exact ho x hx
          · exact takeL_own ht
theorem runL_app : ∀ (x y : List UInt8), x.all innB = true → (∀ c r, y = c :: r → innB c = false) → runL (x ++ y) = x
  | [], y, _, hy => by
    cases y with
    | nil => rfl
    | cons c r => rw [List.nil_append, runL_none c r (hy c r rfl)]
  | a :: x, y, hx, hy => by
    rw [List.all_cons, Bool.and_eq_true] at hx
    rw [List.cons_append, runL_cons a _ hx.1, runL_app x y hx.2 hy]
theorem inn_not59 {c : UInt8} (h : innB c = true) : ¬ c.toNat = 59 := by
  intro e
  simp [innB, letB, digB, e] at h
theorem inn_notgap {c : UInt8} (h : innB c = true) : ¬ gapB c = true := by
  intro e
  simp [innB, letB, digB, gapB] at h e
  omega
theorem dig_facts {c : UInt8} (h : digB c = true) : 48 ≤ c.toNat ∧ c.toNat ≤ 57 := by simpa [digB] using h
theorem lexS_ends : ∀ (r : List UInt8) (n k : Nat) (l : List Tok), (∃ l', lexS r n k l = (l', 0, 0)) ∨ (∃ k', lexS r n k l = ([], k', 2)) ∨ ∃ k', lexS r n k l = ([], k', 4)
  | [], n, k, l => .inl ⟨l, by simp [lexS]⟩
  | c :: r, n + 1, k, l => by rw [lexS]; exact lexS_ends r n (k + 1) l
  | c :: r, 0, k, l => by
    rw [lexS]
    by_cases hg : gapB c = true
    · rw [if_pos hg]; exact lexS_ends r 0 (k + 1) l
    · rw [if_neg hg]
      cases ht : takeL (c :: r) k with
      | none => exact .inr (.inl ⟨_, rfl⟩)
      | some t =>
        by_cases hl : l.length = 5000
        · simp only [if_pos hl]; exact .inr (.inr ⟨_, rfl⟩)
        · simp only [if_neg hl]; exact lexS_ends r _ (k + 1) (l ++ [t])
end Go.Proofs.YtandfjahfbeaiaaGreat
