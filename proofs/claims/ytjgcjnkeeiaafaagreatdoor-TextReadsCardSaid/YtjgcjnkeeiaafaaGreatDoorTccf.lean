/-
  Plain facts of the model of layer 1 that the document's own Lex and Name need, where package lex's Lex is not reached. (made by wip/tools/mklxt.py) Plain facts for the document's own answer of layer 1: kinds of bytes, how a number is read there; and the contract of its kind.
-/
import Derived.Test.YtjgcjnkeeiaafaaGreatDoorTcce
import Derived.Test.YtjgcjnkeeiaafaaGreatDoorTcac
namespace Go.Proofs.YtjgcjnkeeiaafaaGreatDoor
open Go.RowKit
def semiB : List UInt8 → Bool
  | [] => false
  | c :: _ => decide (c.toNat = 59)
theorem u8_eq {c : UInt8} {n : Nat} (h : n < 256) : c = UInt8.ofNat n ↔ c.toNat = n := by
  constructor
  · rintro rfl; simp; omega
  · intro e; apply UInt8.toNat_inj.1; simp; omega
theorem bytes_eq {t : ByteArray} {l : List UInt8} (h : t.data.toList = l) : t = ⟨l.toArray⟩ := by subst h; simp
theorem take_semi {s : ByteArray} {k : Nat} (hk : k < s.size) (h : semiB (s.data.toList.drop k) = true) : takeL (s.data.toList.drop k) k = some ⟨3, [59], 0, k⟩ := by
  rw [List.drop_eq_getElem_cons (by simpa using hk)] at h ⊢
  simp only [semiB, decide_eq_true_eq] at h
  simp only [takeL, h, if_true]
  rw [(u8_eq (n := 59) (by omega)).2 h]; rfl
def tokC (t : Tok) : List Value := [.int .i64 t.kind, .string ⟨t.text.toArray⟩, .int .i64 t.val, .int .i64 t.loc]
def rowC (l : List Tok) : List Value := l.flatMap tokC
theorem rowC_length (l : List Tok) : (rowC l).length = l.length * 4 := by
  induction l with
  | nil => rfl
  | cons t r ih => simp only [rowC, List.flatMap_cons, List.length_append, List.length_cons] at ih ⊢; rw [ih]; simp [tokC]; omega
theorem rowC_snoc (l : List Tok) (t : Tok) : rowC (l ++ [t]) = rowC l ++ tokC t := by simp [rowC]
theorem own_apart {w : World} {B e z n : Nat} {v : Value} {xs : List Value} (h : w.ownsRow B e z v n xs) {k : Nat} (hk : w.heap.size ≤ k) : some k ≠ v.ownBlock := by
  intro e; have := (h.lt k e.symm).2; omega
def Toks (w : World) (A : Option Addr) (n : Nat) (l : List Tok) : Prop :=
  n = l.length ∧ (0 < n → ∃ b off, A = some ⟨b, off, none⟩ ∧ b < w.heap.size ∧ ∀ j u, (rowC l)[j]? = some u → w.cell? ⟨b, off + j, none⟩ = some u)
theorem Toks.below {w w' : World} {A : Option Addr} {n : Nat} {l : List Tok} (h : Toks w A n l) (hb : Below w.heap.size w w') : Toks w' A n l := by
  refine ⟨h.1, fun hn => ?_⟩
  obtain ⟨b, off, h1, h2, h3⟩ := h.2 hn
  exact ⟨b, off, h1, by have := hb.size; omega, fun j u hu => (hb.cell (p := ⟨b, off + j, none⟩) h2).trans (h3 j u hu)⟩
theorem Toks.of_own {w : World} {B e : Nat} {A : Option Addr} {n c : Nat} {l : List Tok} (h : w.ownsRow B e 4 (.slice A n c) l.length (rowC l)) : Toks w A n l := by
  rcases h.2 with ⟨hv, h0⟩ | ⟨g, cap, cur, hv, _, hg, _⟩
  · injection hv with h1 h2 h3
    exact ⟨by omega, fun hn => by omega⟩
  · injection hv with h1 h2 h3
    subst h1
    refine ⟨h2, fun _ => ⟨g, 0, rfl, (Array.getElem?_eq_some_iff.1 hg).1, fun j u hu => ?_⟩⟩
    have := h.cells (g := g) rfl j u hu
    rw [Addr.add_lit] at this
    exact this
theorem rowC_at (l : List Tok) : ∀ (k : Nat) (hk : k < l.length), (rowC l)[k * 4]? = some (.int .i64 l[k].kind) ∧ (rowC l)[k * 4 + 1]? = some (.string ⟨l[k].text.toArray⟩) ∧ (rowC l)[k * 4 + 2]? = some (.int .i64 l[k].val) ∧ (rowC l)[k * 4 + 3]? = some (.int .i64 l[k].loc) := by
  induction l with
  | nil => intro k hk; simp at hk
  | cons t r ih =>
    intro k hk
    cases k with
    | zero => exact ⟨rfl, rfl, rfl, rfl⟩
    | succ k =>
      have := ih k (by simpa using hk)
      have e : rowC (t :: r) = tokC t ++ rowC r := by simp [rowC]
      have h4 : (tokC t).length = 4 := rfl
      simp only [List.getElem_cons_succ]
      rw [e]
      refine ⟨?_, ?_, ?_, ?_⟩
      all_goals rw [List.getElem?_append_right (by rw [h4]; omega), h4]
      · rw [show (k + 1) * 4 - 4 = k * 4 from by omega]; exact this.1
      · rw [show (k + 1) * 4 + 1 - 4 = k * 4 + 1 from by omega]; exact this.2.1
      · rw [show (k + 1) * 4 + 2 - 4 = k * 4 + 2 from by omega]; exact this.2.2.1
      · rw [show (k + 1) * 4 + 3 - 4 = k * 4 + 3 from by omega]; exact this.2.2.2
theorem Toks.at_ {w : World} {A : Option Addr} {n k : Nat} {l : List Tok} (h : Toks w A n l) (hk : k < n) : ∃ b off t x, A = some ⟨b, off, none⟩ ∧ b < w.heap.size ∧ l[k]? = some t ∧ x = (⟨t.text.toArray⟩ : ByteArray) ∧
    w.cell? ⟨b, off + k * 4, none⟩ = some (.int .i64 t.kind) ∧ w.cell? ⟨b, off + k * 4 + 1, none⟩ = some (.string x) ∧ w.cell? ⟨b, off + k * 4 + 2, none⟩ = some (.int .i64 t.val) ∧ w.cell? ⟨b, off + k * 4 + 3, none⟩ = some (.int .i64 t.loc) := by
  obtain ⟨b, off, h1, h2, h3⟩ := h.2 (by omega)
  have hk' : k < l.length := by have := h.1; omega
  obtain ⟨c0, c1, c2, c3⟩ := rowC_at l k hk'
  exact ⟨b, off, l[k], _, h1, h2, List.getElem?_eq_getElem hk', rfl, h3 _ _ c0, by rw [Nat.add_assoc]; exact h3 _ _ c1, by rw [Nat.add_assoc]; exact h3 _ _ c2, by rw [Nat.add_assoc]; exact h3 _ _ c3⟩
theorem dig_facts {c : UInt8} (h : digB c = true) : 48 ≤ c.toNat ∧ c.toNat ≤ 57 := by simpa [digB] using h
theorem lexS_ends : ∀ (r : List UInt8) (n k : Nat) (l : List Tok), (∃ l', lexS r n k l = (l', 0, 0)) ∨ (∃ k', lexS r n k l = ([], k', 2)) ∨ ∃ k', lexS r n k l = ([], k', 4)
  | [], n, k, l => .inl ⟨l, by simp [lexS]⟩
  | c :: r, n + 1, k, l => by rw [lexS]; exact lexS_ends r n (k + 1) l
  | c :: r, 0, k, l => by
    rw [lexS]
    by_cases hg : gapB c = true
    · rw [if_pos hg]; exact lexS_ends r 0 (k + 1) l
    · rw [if_neg hg]
      cases ht : takeL (c :: r) k with
      | none => exact .inr (.inl ⟨_, rfl⟩)
      | some t =>
        by_cases hl : l.length = 5000
        · simp only [if_pos hl]; exact .inr (.inr ⟨_, rfl⟩)
        · simp only [if_neg hl]; exact lexS_ends r _ (k + 1) (l ++ [t])
end Go.Proofs.YtjgcjnkeeiaafaaGreatDoor

namespace Go.Proofs.YtjgcjnkeeiaafaaGreatDoor
open Go.RowKit
def kindN (c : UInt8) : Nat :=
  if letB c then 1 else if digB c then 2 else if c.toNat = 95 then 3 else if c.toNat = 59 then 4 else if gapB c then 5 else 0
theorem kind_let {c : UInt8} (h : letB c = true) : kindN c = 1 := by simp [kindN, h]
theorem kind_dig {c : UInt8} (h : digB c = true) : kindN c = 2 := by
  have : letB c = false := by simp [letB, digB] at h ⊢; omega
  simp [kindN, h, this]
theorem kind_gap {c : UInt8} (h : gapB c = true) : kindN c = 5 := by
  have h1 : letB c = false := by simp [letB, gapB] at h ⊢; omega
  have h2 : digB c = false := by simp [digB, gapB] at h ⊢; omega
  have h3 : ¬ c.toNat = 95 ∧ ¬ c.toNat = 59 := by simp [gapB] at h; omega
  simp [kindN, h, h1, h2, h3]
theorem kind_semi {c : UInt8} (h : c.toNat = 59) : kindN c = 4 := by
  have h1 : letB c = false := by simp [letB, h]
  have h2 : digB c = false := by simp [digB, h]
  simp [kindN, h, h1, h2]
theorem kind_inn (c : UInt8) : (1 ≤ kindN c ∧ kindN c ≤ 3) ↔ innB c = true := by
  unfold kindN innB
  by_cases h1 : letB c = true
  · simp [h1]
  · by_cases h2 : digB c = true
    · simp [h1, h2]
    · by_cases h3 : c.toNat = 95
      · simp [h1, h2, h3]
      · by_cases h4 : c.toNat = 59
        · simp [h1, h2, h4]
        · by_cases h5 : gapB c = true <;> simp [h1, h2, h3, h4, h5]
/-- Of a byte that is no blank: what kind of token begins there. -/
theorem kind_cases (c : UInt8) (hg : gapB c = false) : (letB c = true) ∨ (digB c = true) ∨ (c.toNat = 59) ∨ ((kindN c = 0 ∨ kindN c = 3) ∧ letB c = false ∧ digB c = false ∧ ¬ c.toNat = 59) := by
  by_cases h1 : letB c = true
  · exact .inl h1
  · by_cases h2 : digB c = true
    · exact .inr (.inl h2)
    · by_cases h3 : c.toNat = 59
      · exact .inr (.inr (.inl h3))
      · refine .inr (.inr (.inr ⟨?_, by simpa using h1, by simpa using h2, h3⟩))
        unfold kindN
        by_cases h4 : c.toNat = 95 <;> simp [h1, h2, h3, h4, hg]
theorem take_bad {c : UInt8} {r : List UInt8} (k : Nat) (h1 : letB c = false) (h2 : digB c = false) (h3 : ¬ c.toNat = 59) : takeL (c :: r) k = none := by
  simp only [takeL]
  rw [if_neg h3]
  by_cases hi : innB c = true
  · rw [runL_cons c r hi]
    have hn : nameL (c :: runL r) = false := by simp [nameL, h1]
    have h48 : ¬ c.toNat = 48 := by intro e; simp [digB, e] at h2
    have hv : numL (c :: runL r) = none := by
      rw [numL, if_neg (by simp [h48]), numGo, h2]; simp
    simp [wordL, hn, hv]
  · rw [runL_none c r (by simpa using hi)]
    simp [wordL, nameL, numL]
theorem take_let {c : UInt8} {r : List UInt8} (k : Nat) (h1 : letB c = true) : takeL (c :: r) k = if (runL (c :: r)).length ≤ 20 then some ⟨1, runL (c :: r), 0, k⟩ else none := by
  have hi : innB c = true := by simp [innB, h1]
  have h59 : ¬ c.toNat = 59 := by intro e; simp [letB, e] at h1
  have h48 : ¬ c.toNat = 48 := by intro e; simp [letB, e] at h1
  have hd : digB c = false := by simp [letB, digB] at h1 ⊢; omega
  have ha := runL_all r
  simp only [takeL]
  rw [if_neg h59, runL_cons c r hi]
  have hv : numL (c :: runL r) = none := by rw [numL, if_neg (by simp [h48]), numGo, hd]; simp
  by_cases hl : (runL r).length < 20
  · have hn : nameL (c :: runL r) = true := by rw [nameL, decide_eq_true hl, h1, ha]; rfl
    rw [if_pos (by simp only [List.length_cons]; omega)]
    simp [wordL, hn]
  · have hn : nameL (c :: runL r) = false := by rw [nameL, decide_eq_false hl]; rfl
    rw [if_neg (by simp only [List.length_cons]; omega)]
    simp [wordL, hn, hv]
theorem take_dig {c : UInt8} {r : List UInt8} (k : Nat) (h1 : digB c = true) : takeL (c :: r) k = (numL (runL (c :: r))).map fun v => ⟨2, runL (c :: r), v, k⟩ := by
  have hi : innB c = true := by simp [innB, h1]
  have h59 : ¬ c.toNat = 59 := by intro e; simp [digB, e] at h1
  have hlt : letB c = false := by simp [letB, digB] at h1 ⊢; omega
  simp only [takeL]
  rw [if_neg h59, runL_cons c r hi]
  have hn : nameL (c :: runL r) = false := by simp [nameL, hlt]
  unfold wordL
  rw [hn]
  cases numL (c :: runL r) <;> rfl
/-- How the document's answer reads a number: too great is asked one digit late; z: does it begin with 0; f: is this the first digit. -/
def numR (z f : Bool) : Nat → List UInt8 → Option Nat
  | v, [] => if v ≤ 1048576 then some v else none
  | v, c :: r => if digB c && !(z && !f) && decide (v ≤ 1048576) then numR z false (10 * v + (c.toNat - 48)) r else none
theorem numR_plain (f : Bool) : ∀ (r : List UInt8) (v : Nat), numR false f v r = if v ≤ 1048576 then numGo v r else none
  | [], v => by simp [numR, numGo]
  | c :: r, v => by
    rw [numR, numGo, numR_plain false r]
    by_cases hv : v ≤ 1048576
    · by_cases hd : digB c = true
      · simp [hv, hd, Nat.mul_comm]
      · simp [hd]
    · simp [hv]
theorem numR_is (c : UInt8) (r : List UInt8) : numR (decide (c.toNat = 48)) true 0 (c :: r) = numL (c :: r) := by
  by_cases h : c.toNat = 48
  · have hd : digB c = true := by simp [digB, h]
    cases r with
    | nil => simp [h, numR, numL, numGo, hd]
    | cons a r => simp [h, numR, numL, hd]
  · rw [decide_eq_false h, numR_plain, if_pos (by omega), numL, if_neg (fun e => h e.1)]
theorem ret_int {a b : Int} (h : a = b) : Ending.returned (.int .i64 a) = .returned (.int .i64 b) := by rw [h]
set_option maxHeartbeats 1000000 in
theorem kind_any (c : UInt8) (w : World) : Calls Tryz.prog 38 #[.int .u8 c.toNat] w fun e w' => e = .returned (.int .i64 (kindN c)) ∧ w = w' := by
  go_enter Tryz.func38, Tryz.ntmps38
  go_wp2
  all_goals go_ret
  all_goals
    refine ⟨ret_int ?_, rfl⟩
    try simp only [beq_iff_eq, beq_eq_false_iff_ne] at *
    simp only [kindN, letB, digB, gapB, Bool.and_eq_true, Bool.or_eq_true, decide_eq_true_eq]
    repeat' split
    all_goals omega
end Go.Proofs.YtjgcjnkeeiaafaaGreatDoor
