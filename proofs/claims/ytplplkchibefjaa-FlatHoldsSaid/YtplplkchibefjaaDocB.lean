/-
  Contracts of the document's own Name and name. (made by wip/tools/gen_doc.py)
-/
import Derived.Test.YtplplkchibefjaaLexP
import Derived.Test.YtplplkchibefjaaDocA
namespace Go.Proofs.Ytplplkchibefjaa
open Go.RowKit Go.Shelf
open Go.RowKit

def semiB : List UInt8 → Bool
  | [] => false
  | c :: _ => decide (c.toNat = 59)
theorem u8_eq {c : UInt8} {n : Nat} (h : n < 256) : c = UInt8.ofNat n ↔ c.toNat = n := by
  constructor
  · rintro rfl; simp; omega
  · intro e; apply UInt8.toNat_inj.1; simp; omega
theorem bytes_eq {t : ByteArray} {l : List UInt8} (h : t.data.toList = l) : t = ⟨l.toArray⟩ := by subst h; simp
theorem take_semi {s : ByteArray} {k : Nat} (hk : k < s.size) (h : semiB (s.data.toList.drop k) = true) : takeL (s.data.toList.drop k) k = some ⟨3, [59], 0, k⟩ := by
  rw [List.drop_eq_getElem_cons (by simpa using hk)] at h ⊢
  simp only [semiB, decide_eq_true_eq] at h
  simp only [takeL, h, if_true]
  rw [(u8_eq (n := 59) (by omega)).2 h]; rfl
def tokC (t : Tok) : List Value := [.int .i64 t.kind, .string ⟨t.text.toArray⟩, .int .i64 t.val, .int .i64 t.loc]
def rowC (l : List Tok) : List Value := l.flatMap tokC
theorem rowC_length (l : List Tok) : (rowC l).length = l.length * 4 := by
  induction l with
  | nil => rfl
  | cons t r ih => simp only [rowC, List.flatMap_cons, List.length_append, List.length_cons] at ih ⊢; rw [ih]; simp [tokC]; omega
theorem rowC_snoc (l : List Tok) (t : Tok) : rowC (l ++ [t]) = rowC l ++ tokC t := by simp [rowC]
theorem own_apart {w : World} {B e z n : Nat} {v : Value} {xs : List Value} (h : w.ownsRow B e z v n xs) {k : Nat} (hk : w.heap.size ≤ k) : some k ≠ v.ownBlock := by
  intro e; have := (h.lt k e.symm).2; omega
def Toks (w : World) (A : Option Addr) (n : Nat) (l : List Tok) : Prop :=
  n = l.length ∧ (0 < n → ∃ b off, A = some ⟨b, off, none⟩ ∧ b < w.heap.size ∧ ∀ j u, (rowC l)[j]? = some u → w.cell? ⟨b, off + j, none⟩ = some u)
theorem Toks.below {w w' : World} {A : Option Addr} {n : Nat} {l : List Tok} (h : Toks w A n l) (hb : Below w.heap.size w w') : Toks w' A n l := by
  refine ⟨h.1, fun hn => ?_⟩
  obtain ⟨b, off, h1, h2, h3⟩ := h.2 hn
  exact ⟨b, off, h1, by have := hb.size; omega, fun j u hu => (hb.cell (p := ⟨b, off + j, none⟩) h2).trans (h3 j u hu)⟩
theorem Toks.of_own {w : World} {B e : Nat} {A : Option Addr} {n c : Nat} {l : List Tok} (h : w.ownsRow B e 4 (.slice A n c) l.length (rowC l)) : Toks w A n l := by
  rcases h.2 with ⟨hv, h0⟩ | ⟨g, cap, cur, hv, _, hg, _⟩
  · injection hv with h1 h2 h3
    exact ⟨by omega, fun hn => by omega⟩
  · injection hv with h1 h2 h3
    subst h1
    refine ⟨h2, fun _ => ⟨g, 0, rfl, (Array.getElem?_eq_some_iff.1 hg).1, fun j u hu => ?_⟩⟩
    have := h.cells (g := g) rfl j u hu
    rw [Addr.add_lit] at this
    exact this
theorem rowC_at (l : List Tok) : ∀ (k : Nat) (hk : k < l.length), (rowC l)[k * 4]? = some (.int .i64 l[k].kind) ∧ (rowC l)[k * 4 + 1]? = some (.string ⟨l[k].text.toArray⟩) ∧ (rowC l)[k * 4 + 2]? = some (.int .i64 l[k].val) ∧ (rowC l)[k * 4 + 3]? = some (.int .i64 l[k].loc) := by
  induction l with
  | nil => intro k hk; simp at hk
  | cons t r ih =>
    intro k hk
    cases k with
    | zero => exact ⟨rfl, rfl, rfl, rfl⟩
    | succ k =>
      have := ih k (by simpa using hk)
      have e : rowC (t :: r) = tokC t ++ rowC r := by simp [rowC]
      have h4 : (tokC t).length = 4 := rfl
      simp only [List.getElem_cons_succ]
      rw [e]
      refine ⟨?_, ?_, ?_, ?_⟩
      all_goals rw [List.getElem?_append_right (by rw [h4]; omega), h4]
      · rw [show (k + 1) * 4 - 4 = k * 4 from by omega]; exact this.1
      · rw [show (k + 1) * 4 + 1 - 4 = k * 4 + 1 from by omega]; exact this.2.1
      · rw [show (k + 1) * 4 + 2 - 4 = k * 4 + 2 from by omega]; exact this.2.2.1
      · rw [show (k + 1) * 4 + 3 - 4 = k * 4 + 3 from by omega]; exact this.2.2.2
theorem Toks.at_ {w : World} {A : Option Addr} {n k : Nat} {l : List Tok} (h : Toks w A n l) (hk : k < n) : ∃ b off t x, A = some ⟨b, off, none⟩ ∧ b < w.heap.size ∧ l[k]? = some t ∧ x = (⟨t.text.toArray⟩ : ByteArray) ∧
    w.cell? ⟨b, off + k * 4, none⟩ = some (.int .i64 t.kind) ∧ w.cell? ⟨b, off + k * 4 + 1, none⟩ = some (.string x) ∧ w.cell? ⟨b, off + k * 4 + 2, none⟩ = some (.int .i64 t.val) ∧ w.cell? ⟨b, off + k * 4 + 3, none⟩ = some (.int .i64 t.loc) := by
  obtain ⟨b, off, h1, h2, h3⟩ := h.2 (by omega)
  have hk' : k < l.length := by have := h.1; omega
  obtain ⟨c0, c1, c2, c3⟩ := rowC_at l k hk'
  exact ⟨b, off, l[k], _, h1, h2, List.getElem?_eq_getElem hk', rfl, h3 _ _ c0, by rw [Nat.add_assoc]; exact h3 _ _ c1, by rw [Nat.add_assoc]; exact h3 _ _ c2, by rw [Nat.add_assoc]; exact h3 _ _ c3⟩
def Own (t : Tok) : Prop := (t.kind = 3 ∧ t.text = [59] ∧ t.val = 0) ∨ (t.text.all innB = true ∧ wordL t.text t.loc = some t)
theorem wordL_at {x : List UInt8} {k k' : Nat} {t : Tok} (h : wordL x k = some t) : wordL x k' = some ⟨t.kind, t.text, t.val, k'⟩ := by
  unfold wordL at h ⊢
  by_cases hn : nameL x = true
  · rw [if_pos hn] at h ⊢; injection h with h; subst h; rfl
  · rw [if_neg hn] at h ⊢
    cases hv : numL x with
    | none => rw [hv] at h; simp at h
    | some v => rw [hv] at h; injection h with h; subst h; rfl
theorem takeL_own {r : List UInt8} {k : Nat} {t : Tok} (h : takeL r k = some t) : Own t := by
  cases r with
  | nil => simp [takeL] at h
  | cons c r =>
    unfold takeL at h
    simp only at h
    by_cases h59 : c.toNat = 59
    · rw [if_pos h59] at h
      injection h with h; subst h
      left
      refine ⟨rfl, ?_, rfl⟩
      show [c] = [59]
      rw [(u8_eq (c := c) (n := 59) (by omega)).2 h59]; rfl
    · rw [if_neg h59] at h
      obtain ⟨h1, _, h3⟩ := wordL_some h
      right
      rw [h1, h3]
      exact ⟨runL_all _, h⟩
theorem lexS_own : ∀ (r : List UInt8) (n k : Nat) (l l' : List Tok), lexS r n k l = (l', 0, 0) → (∀ t ∈ l, Own t) → ∀ t ∈ l', Own t
  | [], n, k, l, l', h, ho => by simp [lexS] at h; subst h; exact ho
  | c :: r, n + 1, k, l, l', h, ho => by rw [lexS] at h; exact lexS_own r n (k + 1) l l' h ho
  | c :: r, 0, k, l, l', h, ho => by
    rw [lexS] at h
    by_cases hg : gapB c = true
    · rw [if_pos hg] at h; exact lexS_own r 0 (k + 1) l l' h ho
    · rw [if_neg hg] at h
      cases ht : takeL (c :: r) k with
      | none => rw [ht] at h; simp at h
      | some t =>
        rw [ht] at h
        simp only at h
        by_cases hl : l.length = 5000
        · rw [if_pos hl] at h; simp at h
        · rw [if_neg hl] at h
          refine lexS_own r _ (k + 1) (l ++ [t]) l' h fun x hx => ?_
          rw [List.mem_append, List.mem_singleton] at hx
          rcases hx with hx | rfl
          · exact ho x hx
          · exact takeL_own ht
theorem runL_app : ∀ (x y : List UInt8), x.all innB = true → (∀ c r, y = c :: r → innB c = false) → runL (x ++ y) = x
  | [], y, _, hy => by
    cases y with
    | nil => rfl
    | cons c r => rw [List.nil_append, runL_none c r (hy c r rfl)]
  | a :: x, y, hx, hy => by
    rw [List.all_cons, Bool.and_eq_true] at hx
    rw [List.cons_append, runL_cons a _ hx.1, runL_app x y hx.2 hy]
theorem inn_not59 {c : UInt8} (h : innB c = true) : ¬ c.toNat = 59 := by
  intro e
  simp [innB, letB, digB, e] at h
theorem inn_notgap {c : UInt8} (h : innB c = true) : ¬ gapB c = true := by
  intro e
  simp [innB, letB, digB, gapB] at h e
  omega
theorem dig_facts {c : UInt8} (h : digB c = true) : 48 ≤ c.toNat ∧ c.toNat ≤ 57 := by simpa [digB] using h
theorem lexS_ends : ∀ (r : List UInt8) (n k : Nat) (l : List Tok), (∃ l', lexS r n k l = (l', 0, 0)) ∨ (∃ k', lexS r n k l = ([], k', 2)) ∨ ∃ k', lexS r n k l = ([], k', 4)
  | [], n, k, l => .inl ⟨l, by simp [lexS]⟩
  | c :: r, n + 1, k, l => by rw [lexS]; exact lexS_ends r n (k + 1) l
  | c :: r, 0, k, l => by
    rw [lexS]
    by_cases hg : gapB c = true
    · rw [if_pos hg]; exact lexS_ends r 0 (k + 1) l
    · rw [if_neg hg]
      cases ht : takeL (c :: r) k with
      | none => exact .inr (.inl ⟨_, rfl⟩)
      | some t =>
        by_cases hl : l.length = 5000
        · simp only [if_pos hl]; exact .inr (.inr ⟨_, rfl⟩)
        · simp only [if_neg hl]; exact lexS_ends r _ (k + 1) (l ++ [t])

open Go.RowKit

def kindN (c : UInt8) : Nat :=
  if letB c then 1 else if digB c then 2 else if c.toNat = 95 then 3 else if c.toNat = 59 then 4 else if gapB c then 5 else 0

theorem kind_let {c : UInt8} (h : letB c = true) : kindN c = 1 := by simp [kindN, h]
theorem kind_dig {c : UInt8} (h : digB c = true) : kindN c = 2 := by
  have : letB c = false := by simp [letB, digB] at h ⊢; omega
  simp [kindN, h, this]
theorem kind_gap {c : UInt8} (h : gapB c = true) : kindN c = 5 := by
  have h1 : letB c = false := by simp [letB, gapB] at h ⊢; omega
  have h2 : digB c = false := by simp [digB, gapB] at h ⊢; omega
  have h3 : ¬ c.toNat = 95 ∧ ¬ c.toNat = 59 := by simp [gapB] at h; omega
  simp [kindN, h, h1, h2, h3]
theorem kind_semi {c : UInt8} (h : c.toNat = 59) : kindN c = 4 := by
  have h1 : letB c = false := by simp [letB, h]
  have h2 : digB c = false := by simp [digB, h]
  simp [kindN, h, h1, h2]
theorem kind_inn (c : UInt8) : (1 ≤ kindN c ∧ kindN c ≤ 3) ↔ innB c = true := by
  unfold kindN innB
  by_cases h1 : letB c = true
  · simp [h1]
  · by_cases h2 : digB c = true
    · simp [h1, h2]
    · by_cases h3 : c.toNat = 95
      · simp [h1, h2, h3]
      · by_cases h4 : c.toNat = 59
        · simp [h1, h2, h4]
        · by_cases h5 : gapB c = true <;> simp [h1, h2, h3, h4, h5]
/-- Of a byte that is no blank: what kind of token begins there. -/
theorem kind_cases (c : UInt8) (hg : gapB c = false) : (letB c = true) ∨ (digB c = true) ∨ (c.toNat = 59) ∨ ((kindN c = 0 ∨ kindN c = 3) ∧ letB c = false ∧ digB c = false ∧ ¬ c.toNat = 59) := by
  by_cases h1 : letB c = true
  · exact .inl h1
  · by_cases h2 : digB c = true
    · exact .inr (.inl h2)
    · by_cases h3 : c.toNat = 59
      · exact .inr (.inr (.inl h3))
      · refine .inr (.inr (.inr ⟨?_, by simpa using h1, by simpa using h2, h3⟩))
        unfold kindN
        by_cases h4 : c.toNat = 95 <;> simp [h1, h2, h3, h4, hg]
theorem take_bad {c : UInt8} {r : List UInt8} (k : Nat) (h1 : letB c = false) (h2 : digB c = false) (h3 : ¬ c.toNat = 59) : takeL (c :: r) k = none := by
  simp only [takeL]
  rw [if_neg h3]
  by_cases hi : innB c = true
  · rw [runL_cons c r hi]
    have hn : nameL (c :: runL r) = false := by simp [nameL, h1]
    have h48 : ¬ c.toNat = 48 := by intro e; simp [digB, e] at h2
    have hv : numL (c :: runL r) = none := by
      rw [numL, if_neg (by simp [h48]), numGo, h2]; simp
    simp [wordL, hn, hv]
  · rw [runL_none c r (by simpa using hi)]
    simp [wordL, nameL, numL]
theorem take_let {c : UInt8} {r : List UInt8} (k : Nat) (h1 : letB c = true) : takeL (c :: r) k = if (runL (c :: r)).length ≤ 20 then some ⟨1, runL (c :: r), 0, k⟩ else none := by
  have hi : innB c = true := by simp [innB, h1]
  have h59 : ¬ c.toNat = 59 := by intro e; simp [letB, e] at h1
  have h48 : ¬ c.toNat = 48 := by intro e; simp [letB, e] at h1
  have hd : digB c = false := by simp [letB, digB] at h1 ⊢; omega
  have ha := runL_all r
  simp only [takeL]
  rw [if_neg h59, runL_cons c r hi]
  have hv : numL (c :: runL r) = none := by rw [numL, if_neg (by simp [h48]), numGo, hd]; simp
  by_cases hl : (runL r).length < 20
  · have hn : nameL (c :: runL r) = true := by rw [nameL, decide_eq_true hl, h1, ha]; rfl
    rw [if_pos (by simp only [List.length_cons]; omega)]
    simp [wordL, hn]
  · have hn : nameL (c :: runL r) = false := by rw [nameL, decide_eq_false hl]; rfl
    rw [if_neg (by simp only [List.length_cons]; omega)]
    simp [wordL, hn, hv]
theorem take_dig {c : UInt8} {r : List UInt8} (k : Nat) (h1 : digB c = true) : takeL (c :: r) k = (numL (runL (c :: r))).map fun v => ⟨2, runL (c :: r), v, k⟩ := by
  have hi : innB c = true := by simp [innB, h1]
  have h59 : ¬ c.toNat = 59 := by intro e; simp [digB, e] at h1
  have hlt : letB c = false := by simp [letB, digB] at h1 ⊢; omega
  simp only [takeL]
  rw [if_neg h59, runL_cons c r hi]
  have hn : nameL (c :: runL r) = false := by simp [nameL, hlt]
  unfold wordL
  rw [hn]
  cases numL (c :: runL r) <;> rfl

/-- How the document's answer reads a number: too great is asked one digit late; z: does it begin with 0; f: is this the first digit. -/
def numR (z f : Bool) : Nat → List UInt8 → Option Nat
  | v, [] => if v ≤ 1048576 then some v else none
  | v, c :: r => if digB c && !(z && !f) && decide (v ≤ 1048576) then numR z false (10 * v + (c.toNat - 48)) r else none
theorem numR_plain (f : Bool) : ∀ (r : List UInt8) (v : Nat), numR false f v r = if v ≤ 1048576 then numGo v r else none
  | [], v => by simp [numR, numGo]
  | c :: r, v => by
    rw [numR, numGo, numR_plain false r]
    by_cases hv : v ≤ 1048576
    · by_cases hd : digB c = true
      · simp [hv, hd, Nat.mul_comm]
      · simp [hd]
    · simp [hv]
theorem numR_is (c : UInt8) (r : List UInt8) : numR (decide (c.toNat = 48)) true 0 (c :: r) = numL (c :: r) := by
  by_cases h : c.toNat = 48
  · have hd : digB c = true := by simp [digB, h]
    cases r with
    | nil => simp [h, numR, numL, numGo, hd]
    | cons a r => simp [h, numR, numL, hd]
  · rw [decide_eq_false h, numR_plain, if_pos (by omega), numL, if_neg (fun e => h e.1)]

theorem ret_int {a b : Int} (h : a = b) : Ending.returned (.int .i64 a) = .returned (.int .i64 b) := by rw [h]
set_option maxHeartbeats 1000000 in
theorem kind_any (c : UInt8) (w : World) : Calls Try.prog 141 #[.int .u8 c.toNat] w fun e w' => e = .returned (.int .i64 (kindN c)) ∧ w = w' := by
  go_enter Try.func141, Try.ntmps141
  go_wp2
  all_goals go_ret
  all_goals
    refine ⟨ret_int ?_, rfl⟩
    try simp only [beq_iff_eq, beq_eq_false_iff_ne] at *
    simp only [kindN, letB, digB, gapB, Bool.and_eq_true, Bool.or_eq_true, decide_eq_true_eq]
    repeat' split
    all_goals omega

open Go.RowKit

theorem infoRef : (Try.prog.info? 171).map (fun i => (i.zero, i.size, i.bytes)) = some (some (.agg #[.int .i64 0, .string ⟨#[]⟩, .int .i64 0, .int .i64 0]), 4, 40) := by kernel_rfl

/-- What the document's Lex hands back. -/
def RefOf (r : List Tok × Nat × Nat) (w : World) (e : Ending) (w' : World) : Prop :=
  ∃ v : Value, e = .returned (.tuple #[v, .int .i64 r.2.1, .int .i64 r.2.2]) ∧ w'.ownsRow w.heap.size 171 4 v r.1.length (rowC r.1) ∧ Below w.heap.size w w'

def RefRel (s : ByteArray) (w : World) (v i : Value) (wr : World) : Prop :=
  ∃ (k : Nat) (l : List Tok), k ≤ s.size ∧ i = .int .i64 k ∧ wr.ownsRow w.heap.size 171 4 v l.length (rowC l) ∧ Below w.heap.size w wr ∧ l.length ≤ 5000 ∧ Hid (lexS (s.data.toList.drop k) 0 k l = lexL s.data.toList)

theorem refOf_err {s : ByteArray} {w w' : World} {k c : Nat} (h : lexL s.data.toList = ([], k, c)) (hb : Below w.heap.size w w') : RefOf (lexL s.data.toList) w (.returned (.tuple #[.slice none 0 0, .int .i64 k, .int .i64 c])) w' := by
  rw [h]; exact ⟨_, rfl, World.ownsRow_nil _ _ _ _, hb⟩
theorem refOf_ok {s : ByteArray} {w w' : World} {l : List Tok} {v : Value} (h : lexL s.data.toList = (l, 0, 0)) (hown : w'.ownsRow w.heap.size 171 4 v l.length (rowC l)) (hb : Below w.heap.size w w') :
    RefOf (lexL s.data.toList) w (.returned (.tuple #[v, .int .i64 0, .int .i64 0])) w' := by
  rw [h]; exact ⟨_, rfl, hown, hb⟩

/-- kind at a byte whose kind is known. -/
theorem kind_in {c : UInt8} (h : innB c = true) : 1 ≤ kindN c ∧ kindN c ≤ 3 := (kind_inn c).2 h
theorem kind_out {c : UInt8} (h : innB c = false) : kindN c = 0 ∨ 4 ≤ kindN c := by
  have : ¬ (1 ≤ kindN c ∧ kindN c ≤ 3) := fun e => by rw [(kind_inn c).1 e] at h; cases h
  omega
theorem kind_at {c : UInt8} {n : Nat} (h : kindN c = n) (w : World) : Calls Try.prog 141 #[.int .u8 c.toNat] w fun e w' => e = .returned (.int .i64 n) ∧ w = w' := by
  rw [← h]; exact kind_any c w

/-- The run from k on, found by going on as long as bytes are inner ones. -/
theorem run_go {s : ByteArray} {k e : Nat} (hk : k ≤ e) (he : e < s.size) (hi : innB s[e] = true) (hr : e - k ≤ (runL (s.data.toList.drop k)).length) : e + 1 - k ≤ (runL (s.data.toList.drop k)).length := by
  have h1 : e - k < (s.data.toList.drop k).length := by rw [List.length_drop, bytes_len]; omega
  have h2 : (s.data.toList.drop k)[e - k] = s[e] := by
    rw [List.getElem_drop]
    have : k + (e - k) = e := by omega
    simp only [this]; rfl
  have := run_step _ (e - k) h1 (by rw [h2]; exact hi) hr
  omega
theorem run_end {s : ByteArray} {k e : Nat} (hk : k ≤ e) (he : e ≤ s.size) (hi : ∀ h : e < s.size, innB s[e] = false) (hr : e - k ≤ (runL (s.data.toList.drop k)).length) :
    s.extract k e = ⟨(runL (s.data.toList.drop k)).toArray⟩ ∧ (runL (s.data.toList.drop k)).length ≤ e - k := by
  have h0 := run_stop (s.data.toList.drop k) (e - k) hr fun hlt => by
    rw [List.length_drop, bytes_len] at hlt
    have h2 : (s.data.toList.drop k)[e - k] = s[e]'(by omega) := by
      rw [List.getElem_drop]
      have : k + (e - k) = e := by omega
      simp only [this]; rfl
    rw [h2]; exact hi _
  refine ⟨bytes_eq ?_, ?_⟩
  · rw [Lib.extract_data, h0]
  · rw [h0, List.length_take]; omega
theorem run_first {s : ByteArray} {k : Nat} (hk : k < s.size) (hi : innB s[k] = true) : k + 1 - k ≤ (runL (s.data.toList.drop k)).length := by
  have := run_go (Nat.le_refl k) hk hi (by omega)
  exact this

theorem run_byte {s : ByteArray} {k e j : Nat} (h1 : k ≤ j) (h2 : j < e) (he : e ≤ s.size) (hx : s.extract k e = ⟨(runL (s.data.toList.drop k)).toArray⟩) :
    ∃ h : j < s.size, (runL (s.data.toList.drop k)).drop (j - k) = s[j] :: (runL (s.data.toList.drop k)).drop (j + 1 - k) := by
  have hr : runL (s.data.toList.drop k) = (s.data.toList.drop k).take (e - k) := by
    have := congrArg (fun b : ByteArray => b.data.toList) hx
    simp only [Lib.extract_data] at this
    exact this.symm
  refine ⟨by omega, ?_⟩
  have hl : j - k < (runL (s.data.toList.drop k)).length := by rw [hr, List.length_take, List.length_drop, bytes_len]; omega
  rw [List.drop_eq_getElem_cons hl, show j + 1 - k = j - k + 1 from by omega]
  congr 1
  simp only [hr, List.getElem_take, List.getElem_drop]
  have : k + (j - k) = j := by omega
  simp only [this]; rfl
/-- The loop over a number's digits: what holds at each round's head. -/
def DigRel (s : ByteArray) (w wo : World) (vl : Value) (l : List Tok) (k e : Nat) (x : Value) (wr : World) : Prop :=
  ∃ (j v : Nat), k ≤ j ∧ j ≤ e ∧ x = .int .i64 j ∧ v ≤ 10485769 ∧ wr.heap[wo.heap.size]? = some (.cells #[.int .i64 2, .string (s.extract k e), .int .i64 v, .int .i64 k] 171 (0, 0)) ∧
    wr.ownsRow w.heap.size 171 4 vl l.length (rowC l) ∧ Below w.heap.size w wr ∧ wr.heap.size = wo.heap.size + 1 ∧
    Hid (numR (decide ((s.data.toList.getD k 0).toNat = 48)) (decide (j = k)) v ((runL (s.data.toList.drop k)).drop (j - k)) = numL (runL (s.data.toList.drop k)))

theorem tbox_cells {w : World} {b T : Nat} {x0 x1 x2 x3 : Value} (h : w.heap[b]? = some (.cells #[x0, x1, x2, x3] T (0, 0))) :
    w.cell? ⟨b, 0, none⟩ = some x0 ∧ w.cell? ⟨b, 1, none⟩ = some x1 ∧ w.cell? ⟨b, 2, none⟩ = some x2 ∧ w.cell? ⟨b, 3, none⟩ = some x3 ∧ w.frozen? ⟨b, 2, none⟩ = false :=
  ⟨Lib.cell_of_heap h 0, Lib.cell_of_heap h 1, Lib.cell_of_heap h 2, Lib.cell_of_heap h 3, Lib.frozen_of_heap h 2⟩
theorem kind_two {c : UInt8} (h : digB c = false) : kindN c ≠ 2 := by
  unfold kindN
  rw [h]
  repeat' split
  all_goals simp_all

/-- One digit more. -/
theorem dig_step {s : ByteArray} {w wo wr : World} {vl : Value} {l : List Tok} {k e j v c : Nat} (hown : wo.ownsRow w.heap.size 171 4 vl l.length (rowC l)) (hbz : w.heap.size ≤ wo.heap.size) (hj1 : k ≤ j) (hje : j < e) (hv : v ≤ 1048576) (d1 : 48 ≤ c) (d2 : c ≤ 57)
    (hbox : wr.heap[wo.heap.size]? = some (.cells #[.int .i64 2, .string (s.extract k e), .int .i64 v, .int .i64 k] 171 (0, 0))) (hown3 : wr.ownsRow w.heap.size 171 4 vl l.length (rowC l)) (hbel3 : Below w.heap.size w wr) (hsz3 : wr.heap.size = wo.heap.size + 1)
    (HN : Hid (numR (decide ((s.data.toList.getD k 0).toNat = 48)) (decide (j + 1 = k)) (10 * v + (c - 48)) ((runL (s.data.toList.drop k)).drop (j + 1 - k)) = numL (runL (s.data.toList.drop k)))) :
    DigRel s w wo vl l k e (.int .i64 ((j : Int) + 1)) (wr.setCell ⟨wo.heap.size, 2, none⟩ (.int .i64 (10 * (v : Int) + ((c : Int) - 48)))).drew := by
  have hap := own_apart hown (Nat.le_refl wo.heap.size)
  refine ⟨j + 1, 10 * v + (c - 48), by omega, hje, by go_num, by omega, ?_, ?_, ?_, ?_, HN⟩
  · show (wr.setCell ⟨wo.heap.size, 2, none⟩ (.int .i64 (10 * (v : Int) + ((c : Int) - 48)))).heap[wo.heap.size]? = _
    rw [show (10 * (v : Int) + ((c : Int) - 48)) = ((10 * v + (c - 48) : Nat) : Int) from by omega]
    simp [World.setCell, Array.getElem?_modify, hbox]
  · refine hown3.kept (row := some wo.heap.size) ⟨rfl, rfl, rfl, by simp [World.setCell], fun i _ hi => Below.heap_setCell _ _ _ _ (fun e => hi (by rw [e]))⟩ (.inr (fun e => hap e.symm))
  · exact (hbel3.setCell (p := ⟨wo.heap.size, 2, none⟩) hbz _).drew
  · show (wr.setCell _ _).heap.size = _
    simp [World.setCell, hsz3]
theorem dig_done {s : ByteArray} {k e v : Nat} {z f : Bool} (hke : k + (runL (s.data.toList.drop k)).length = e) (h : numR z f v ((runL (s.data.toList.drop k)).drop (e - k)) = numL (runL (s.data.toList.drop k))) :
    numL (runL (s.data.toList.drop k)) = if v ≤ 1048576 then some v else none := by
  rw [← h, List.drop_eq_nil_of_le (by omega), numR]
theorem dig_behind {w wr w2 : World} {o : Obj} {e z n : Nat} {v : Value} {xs : List Value} (hb : Below w.heap.size w wr) (hown : wr.ownsRow w.heap.size e z v n xs) (hg : (wr.alloc o).grownBy w2 v.ownBlock) : Below w.heap.size w w2 := by
  have z1 := hb.size
  exact (hb.alloc (by omega) _).grown hg (by simp; omega) fun k hk => (hown.lt k hk).1

/-- The cells of a new block of four. -/
theorem new4 {W : World} {a b c d : Value} {T n : Nat} (hn : n = W.heap.size) : ∀ j u, [a, b, c, d][j]? = some u → (W.alloc (.cells #[a, b, c, d] T)).cell? ((⟨n, 0, none⟩ : Addr).add j) = some u := by
  subst hn
  intro j u hj
  match j, hj with
  | 0, hj => simp at hj; subst hj; simp [Addr.add]
  | 1, hj => simp at hj; subst hj; simp [Addr.add]
  | 2, hj => simp at hj; subst hj; simp [Addr.add]
  | 3, hj => simp at hj; subst hj; simp [Addr.add]
  | n + 4, hj => simp at hj
theorem one4 (a b c : Int) (x : ByteArray) : ∀ u ∈ [Value.int .i64 a, .string x, .int .i64 b, .int .i64 c], u.oneCell' = true := by
  intro u hu; simp at hu; rcases hu with rfl | rfl | rfl | rfl <;> rfl
/-- Behind the append of a token: all below is as it was; the row holds one token more. -/
theorem ref_behind {w wr w2 : World} {o1 o2 : Obj} {e z n : Nat} {v : Value} {xs : List Value} (hb : Below w.heap.size w wr) (hown : wr.ownsRow w.heap.size e z v n xs) (hg : ((wr.alloc o1).alloc o2).grownBy w2 v.ownBlock) : Below w.heap.size w w2 := by
  have z1 := hb.size
  exact ((hb.alloc (by omega) _).alloc (by simp; omega) _).grown hg (by simp; omega) fun k hk => (hown.lt k hk).1
theorem ref_row {w2 : World} {B e : Nat} {v : Value} {l : List Tok} {t : Tok} {x : ByteArray} (h : w2.ownsRow B e 4 v (l.length + 1) (rowC l ++ [.int .i64 t.kind, .string x, .int .i64 t.val, .int .i64 t.loc])) (hx : x = ⟨t.text.toArray⟩) :
    w2.ownsRow B e 4 v (l ++ [t]).length (rowC (l ++ [t])) := by
  subst hx
  rw [List.length_append, rowC_snoc]
  exact h

set_option maxHeartbeats 8000000 in
set_option maxRecDepth 100000 in
theorem ref_any (s : ByteArray) (w : World) (hs : s.size ≤ 140737488351232) : Calls Try.prog 130 #[.string s] w (RefOf (lexL s.data.toList) w) := by
  obtain ⟨i0, hi, hz0, hz1, hz2⟩ := info_parts infoRef
  have HI := Lib.hid hi
  have HZ0 := Lib.hid hz0
  have HZ1 := Lib.hid hz1
  have HZ2 := Lib.hid hz2
  clear hi hz0 hz1 hz2
  go_enter Try.func130, Try.ntmps130
  go_wp2
  go_loopw [5, 6, 7, 8, 9, 10] (fun v i _ _ _ _ wr => RefRel s w v i wr) (fun _ i _ _ _ _ _ => s.size - (intOf i).toNat)
  case atStart => exact ⟨0, [], Nat.zero_le _, rfl, World.ownsRow_made w #[] 0 (Nat.le_refl _) (Nat.zero_le _) (by simp), (Below.refl _ _).alloc (Nat.le_refl _) _, by simp, rfl⟩
  case round =>
    obtain ⟨k, l, hk, rfl, hown, hbel, hl, HR⟩ := hrel
    by_cases hlt : k < s.size
    · have hlt' : k < s.data.toList.length := by rw [bytes_len]; exact hlt
      cases hg : gapB s[k] with
      | true =>
        have HR' : Hid (lexS (s.data.toList.drop (k + 1)) 0 (k + 1) l = lexL s.data.toList) := by rw [← HR.out, lex_gap hlt' hg]; exact rfl
        have CK := fun W => Lib.hid (kind_at (kind_gap hg) W)
        clear HR hg
        go_wp2_with (first
          | (go_at_call 141; refine (CK _).out.mono ?_; rintro e w' ⟨rfl, rfl⟩))
        go_roundw
        case rel => exact ⟨k + 1, l, hlt, by go_num, hown, hbel, hl, HR'⟩
        case measure => simp [intOf]; omega
      | false =>
        have hcons := List.drop_eq_getElem_cons hlt'
        rcases kind_cases s[k] hg with h1 | h1 | h1 | ⟨h0, h1, h2, h3⟩
        · have hin : innB s[k] = true := by simp [innB, h1]
          have hr0 := run_first hlt hin
          have ht := take_let (c := s[k]) (r := s.data.toList.drop (k + 1)) k h1
          have hcons' : s.data.toList.drop k = s[k] :: s.data.toList.drop (k + 1) := hcons
          rw [← hcons'] at ht
          have hR := runL_le (s.data.toList.drop k)
          rw [List.length_drop, bytes_len] at hR
          have CK := fun W => Lib.hid (kind_at (kind_let h1) W)
          obtain ⟨va, vc, rfl⟩ := own_slice hown
          have HO := Lib.hid hown
          have hbz := hbel.size
          clear hcons hcons' hown hin h1
          go_wp2_with (first
            | (go_at_call 141; refine (CK _).out.mono ?_; rintro e w' ⟨rfl, rfl⟩))
          clear CK
          go_loop [8] (fun x => ∃ e : Nat, k + 1 ≤ e ∧ e ≤ s.size ∧ x = .int .i64 e ∧ e - k ≤ (runL (s.data.toList.drop k)).length) (fun x => s.size - (intOf x).toNat)
          case atStart => exact ⟨k + 1, Nat.le_refl _, hlt, by go_num, hr0⟩
          case round =>
            obtain ⟨e, he1, he2, rfl, hr⟩ := hrel
            clear hr0
            by_cases hes : e < s.size ∧ innB (s.data.toList.getD e 0) = true
            · obtain ⟨hes, hin⟩ := hes
              have hin' : innB s[e] = true := by
                rw [List.getD_eq_getElem?_getD, List.getElem?_eq_getElem (by rw [bytes_len]; exact hes)] at hin; exact hin
              obtain ⟨k1, k2⟩ := kind_in hin'
              have hr' := run_go (by omega) hes hin' hr
              clear hin hin' hr
              go_wp2_with (first
                | (go_at_call 141; refine (kind_any _ _).mono ?_; rintro e' w' ⟨rfl, rfl⟩))
              go_round
              case rel => exact ⟨e + 1, by omega, hes, by go_num, hr'⟩
              case measure => simp [intOf]; omega
            · have hout : (¬ e < s.size) ∨ (∃ h : e < s.size, kindN s[e] = 0) ∨ (∃ h : e < s.size, 4 ≤ kindN s[e]) := by
                by_cases h : e < s.size
                · have hno : innB s[e] = false := by
                    have : ¬ innB (s.data.toList.getD e 0) = true := fun e' => hes ⟨h, e'⟩
                    rw [List.getD_eq_getElem?_getD, List.getElem?_eq_getElem (by rw [bytes_len]; exact h)] at this
                    exact Bool.eq_false_iff.2 this
                  rcases kind_out hno with h' | h'
                  · exact .inr (.inl ⟨h, h'⟩)
                  · exact .inr (.inr ⟨h, h'⟩)
                · exact .inl h
              obtain ⟨hx, hRe⟩ := run_end (k := k) (by omega) he2 (fun h => by
                have : ¬ innB (s.data.toList.getD e 0) = true := fun e' => hes ⟨h, e'⟩
                rw [List.getD_eq_getElem?_getD, List.getElem?_eq_getElem (by rw [bytes_len]; exact h)] at this
                exact Bool.eq_false_iff.2 this) hr
              have HX := Lib.hid hx
              have hke : k + (runL (s.data.toList.drop k)).length = e := by clear hout hes; omega
              clear hx hes
              by_cases h20 : e - k ≤ 20
              · rw [if_pos (by omega)] at ht
                by_cases h5 : l.length = 5000
                · have HF : Hid (lexL s.data.toList = ([], k, 4)) := by rw [← HR.out]; exact lex_many hlt' hg ht h5
                  have h5' : 5000 ≤ l.length := by omega
                  clear HR ht hg h5 hl HX hke hr hRe hR
                  rcases hout with ho | ⟨hes, ho⟩ | ⟨hes, ho⟩
                  all_goals
                    go_wp2_with (first
                      | (go_at_call 141; refine (kind_any _ _).mono ?_; rintro e' w' ⟨rfl, rfl⟩))
                    go_loop [10] (fun e => e = .int .i64 k) (fun _ => 0)
                    case atStart => rfl
                    case round =>
                      subst hrel
                      go_wp2_with fail
                      go_ret3
                      exact refOf_err HF.out (hbel.alloc hbz _)
                · have HR' : Hid (lexS (s.data.toList.drop e) 0 e (l ++ [⟨1, runL (s.data.toList.drop k), 0, k⟩]) = lexL s.data.toList) := Lib.hid (by rw [← HR.out, lex_tok hlt' hg ht h5]; simp only [hke])
                  have h5' : l.length + 1 ≤ 5000 := by omega
                  clear HR ht hg h5 hl hke hr hRe hR
                  rcases hout with ho | ⟨hes, ho⟩ | ⟨hes, ho⟩
                  all_goals
                    go_wp2_with (first
                      | (go_at_call 141; refine (kind_any _ _).mono ?_; rintro e' w' ⟨rfl, rfl⟩))
                    go_loop [10] (fun e => e = .int .i64 k) (fun _ => 0)
                    case atStart => rfl
                    case round =>
                      subst hrel
                      go_wp2_with (first
                        | (at_builtin; refine wpList_append_own _ rfl (.tmp 126) (.tmp 128) 167 rfl w.heap.size 171 i0 _ 4 40 Try.underlying167 HI.out HZ0.out HZ1.out HZ2.out rfl (by omega) _ _ _ rfl ((HO.out.alloc _).alloc _) ⟨wr.heap.size + 1, 0, none⟩ 1 1 [.int .i64 1, .string (s.extract k e), .int .i64 0, .int .i64 k] rfl rfl (new4 (by simp)) (one4 _ _ _ _) (by unfold maxLen; omega) (by omega) (by simp; omega) ?_))
                      intro v' w2 hown' hgrow _
                      have hb2 := ref_behind hbel HO.out hgrow
                      have HO' := Lib.hid (ref_row (t := ⟨1, runL (s.data.toList.drop k), 0, k⟩) hown' HX.out)
                      clear hown' hgrow
                      go_wp2
                      go_roundw
                      case rel => exact ⟨e, l ++ [⟨1, runL (s.data.toList.drop k), 0, k⟩], he2, by go_num, HO'.out, hb2, by simpa using h5', HR'⟩
                      case measure => simp [intOf]; omega
              · rw [if_neg (by omega)] at ht
                have HF : Hid (lexL s.data.toList = ([], k, 2)) := by rw [← HR.out]; exact lex_form hlt' hg ht
                clear HR ht hg hl HX hke hr hRe hR
                rcases hout with ho | ⟨hes, ho⟩ | ⟨hes, ho⟩
                all_goals
                  go_wp2_with (first
                    | (go_at_call 141; refine (kind_any _ _).mono ?_; rintro e' w' ⟨rfl, rfl⟩))
                  go_ret3
                  exact refOf_err HF.out (hbel.alloc hbz _)
        · have hin : innB s[k] = true := by simp [innB, h1]
          have hr0 := run_first hlt hin
          have ht := take_dig (c := s[k]) (r := s.data.toList.drop (k + 1)) k h1
          have hcons' : s.data.toList.drop k = s[k] :: s.data.toList.drop (k + 1) := hcons
          rw [← hcons'] at ht
          have hN0 : numR (decide ((s.data.toList.getD k 0).toNat = 48)) true 0 (runL (s.data.toList.drop k)) = numL (runL (s.data.toList.drop k)) := by rw [show s.data.toList.getD k 0 = s[k] from by rw [List.getD_eq_getElem?_getD, List.getElem?_eq_getElem hlt']; rfl, hcons', runL_cons _ _ hin]; exact numR_is _ _
          have HN0 := Lib.hid hN0
          have hR := runL_le (s.data.toList.drop k)
          rw [List.length_drop, bytes_len] at hR
          have CK := fun W => Lib.hid (kind_at (kind_dig h1) W)
          obtain ⟨va, vc, rfl⟩ := own_slice hown
          have HO := Lib.hid hown
          have hbz := hbel.size
          have HG := Lib.hid hg
          have HT := Lib.hid ht
          clear hcons hcons' hown hin h1 hN0 hg ht
          go_wp2_with (first
            | (go_at_call 141; refine (CK _).out.mono ?_; rintro e w' ⟨rfl, rfl⟩))
          clear CK
          go_loop [8] (fun x => ∃ e : Nat, k + 1 ≤ e ∧ e ≤ s.size ∧ x = .int .i64 e ∧ e - k ≤ (runL (s.data.toList.drop k)).length) (fun x => s.size - (intOf x).toNat)
          case atStart => exact ⟨k + 1, Nat.le_refl _, hlt, by go_num, hr0⟩
          case round =>
            obtain ⟨e, he1, he2, rfl, hr⟩ := hrel
            clear hr0
            by_cases hes : e < s.size ∧ innB (s.data.toList.getD e 0) = true
            · obtain ⟨hes, hin⟩ := hes
              have hin' : innB s[e] = true := by
                rw [List.getD_eq_getElem?_getD, List.getElem?_eq_getElem (by rw [bytes_len]; exact hes)] at hin; exact hin
              obtain ⟨k1, k2⟩ := kind_in hin'
              have hr' := run_go (by omega) hes hin' hr
              clear hin hin' hr
              go_wp2_with (first
                | (go_at_call 141; refine (kind_any _ _).mono ?_; rintro e' w' ⟨rfl, rfl⟩))
              go_round
              case rel => exact ⟨e + 1, by omega, hes, by go_num, hr'⟩
              case measure => simp [intOf]; omega
            · have hout : (¬ e < s.size) ∨ (∃ h : e < s.size, kindN s[e] = 0) ∨ (∃ h : e < s.size, 4 ≤ kindN s[e]) := by
                by_cases h : e < s.size
                · have hno : innB s[e] = false := by
                    have : ¬ innB (s.data.toList.getD e 0) = true := fun e' => hes ⟨h, e'⟩
                    rw [List.getD_eq_getElem?_getD, List.getElem?_eq_getElem (by rw [bytes_len]; exact h)] at this
                    exact Bool.eq_false_iff.2 this
                  rcases kind_out hno with h' | h'
                  · exact .inr (.inl ⟨h, h'⟩)
                  · exact .inr (.inr ⟨h, h'⟩)
                · exact .inl h
              obtain ⟨hx, hRe⟩ := run_end (k := k) (by omega) he2 (fun h => by
                have : ¬ innB (s.data.toList.getD e 0) = true := fun e' => hes ⟨h, e'⟩
                rw [List.getD_eq_getElem?_getD, List.getElem?_eq_getElem (by rw [bytes_len]; exact h)] at this
                exact Bool.eq_false_iff.2 this) hr
              have HX := Lib.hid hx
              have hke : k + (runL (s.data.toList.drop k)).length = e := by clear hout hes; omega
              have HRB : Hid (∀ j, k ≤ j → j < e → ∃ h : j < s.size, (runL (s.data.toList.drop k)).drop (j - k) = s[j] :: (runL (s.data.toList.drop k)).drop (j + 1 - k)) := Lib.hid (fun j h1 h2 => run_byte h1 h2 he2 hx)
              have HKE := Lib.hid hke
              obtain ⟨wo, rfl⟩ : ∃ wo : World, wo = wr := ⟨_, rfl⟩
              clear hx hes hke hr hRe hR
              rcases hout with ho | ⟨hes, ho⟩ | ⟨hes, ho⟩
              all_goals
                go_wp2_with (first
                  | (go_at_call 141; refine (kind_any _ _).mono ?_; rintro e' w' ⟨rfl, rfl⟩))
                clear ho
                go_loopw [10] (fun x wr => DigRel s w wo (.slice va l.length vc) l k e x wr) (fun x _ => e - (intOf x).toNat)
                case atStart => exact ⟨k, 0, Nat.le_refl _, by omega, rfl, by omega, heap_alloc_new wo _, HO.out.alloc _, hbel.alloc hbz _, by simp, Lib.hid (by simpa using HN0.out)⟩
                case round =>
                  obtain ⟨j, v, hj1, hj2, rfl, hv, hbox, hown3, hbel3, hsz3, HN⟩ := hrel
                  obtain ⟨b0, b1, b2, b3, b4⟩ := tbox_cells hbox
                  by_cases hje : j < e
                  · obtain ⟨hjs, hdrop⟩ := HRB.out j hj1 hje
                    have hz : ∀ z f, numR z f v ((runL (s.data.toList.drop k)).drop (j - k)) = if digB s[j] && !(z && !f) && decide (v ≤ 1048576) then numR z false (10 * v + (s[j].toNat - 48)) ((runL (s.data.toList.drop k)).drop (j + 1 - k)) else none := by
                      intro z f; rw [hdrop, numR]
                    have HNZ := HN.out
                    rw [hz] at HNZ
                    have hek : (s.data.toList.getD k 0) = s[k] := by rw [List.getD_eq_getElem?_getD, List.getElem?_eq_getElem hlt']; rfl
                    rw [hek] at HNZ
                    clear HN hz hdrop
                    cases hd : digB s[j] with
                    | false =>
                      have HF : Hid (lexL s.data.toList = ([], k, 2)) := Lib.hid (by
                        rw [← HR.out]
                        refine lex_form hlt' HG.out ?_
                        rw [HT.out, ← HNZ, hd]; rfl)
                      have hk2 : ((kindN s[j] : Int) != 2) = true := by
                        rw [bne_iff_ne]
                        have := kind_two (c := s[j]) hd
                        omega
                      clear HNZ hek hd
                      go_wp2_with (first
                        | (go_at_call 141; refine (kind_any _ _).mono ?_; rintro e' w' ⟨rfl, rfl⟩))
                      go_ret3
                      exact refOf_err HF.out hbel3
                    | true =>
                      obtain ⟨d1, d2⟩ := dig_facts hd
                      have CK2 := fun W => Lib.hid (kind_at (kind_dig hd) W)
                      rw [hd] at HNZ
                      by_cases hvM : v ≤ 1048576
                      · rw [decide_eq_true hvM] at HNZ
                        have hvM' : decide ((1048576 : Int) < (v : Int)) = false := by simp; omega
                        by_cases h48 : s[k].toNat = 48
                        · have h48' : ((s[k].toNat : Int) == 48) = true := by rw [beq_iff_eq]; omega
                          rw [decide_eq_true h48] at HNZ
                          by_cases hjk : j = k
                          · have hjk' : decide (k < j) = false := by simp; omega
                            rw [decide_eq_true hjk] at HNZ
                            have HN' : Hid (numR (decide ((s.data.toList.getD k 0).toNat = 48)) (decide (j + 1 = k)) (10 * v + (s[j].toNat - 48)) ((runL (s.data.toList.drop k)).drop (j + 1 - k)) = numL (runL (s.data.toList.drop k))) := Lib.hid (by rw [← HNZ, hek, decide_eq_true h48, decide_eq_false (by omega : ¬ j + 1 = k)]; rfl)
                            clear HNZ hek hd hjk h48
                            go_wp2_with (first
                              | (go_at_call 141; refine (CK2 _).out.mono ?_; rintro e' w' ⟨rfl, rfl⟩))
                            go_region
                            go_wp2_with fail
                            go_roundw
                            case rel => exact dig_step HO.out hbz hj1 hje hvM d1 d2 hbox hown3 hbel3 hsz3 HN'
                            case measure => simp [intOf]; omega
                          · have hjk' : decide (k < j) = true := by simp; omega
                            have HF : Hid (lexL s.data.toList = ([], k, 2)) := Lib.hid (by
                              rw [← HR.out]
                              refine lex_form hlt' HG.out ?_
                              rw [HT.out, ← HNZ, decide_eq_false hjk]; rfl)
                            clear HNZ hek hd hjk h48 hvM
                            go_wp2_with (first
                              | (go_at_call 141; refine (CK2 _).out.mono ?_; rintro e' w' ⟨rfl, rfl⟩))
                            go_ret3
                            exact refOf_err HF.out hbel3
                        · have h48' : ((s[k].toNat : Int) == 48) = false := by rw [beq_eq_false_iff_ne]; omega
                          have HN' : Hid (numR (decide ((s.data.toList.getD k 0).toNat = 48)) (decide (j + 1 = k)) (10 * v + (s[j].toNat - 48)) ((runL (s.data.toList.drop k)).drop (j + 1 - k)) = numL (runL (s.data.toList.drop k))) := Lib.hid (by rw [← HNZ, hek, decide_eq_false h48, decide_eq_false (by omega : ¬ j + 1 = k)]; rfl)
                          clear HNZ hek hd h48
                          go_wp2_with (first
                            | (go_at_call 141; refine (CK2 _).out.mono ?_; rintro e' w' ⟨rfl, rfl⟩))
                          go_region
                          go_wp2_with fail
                          go_roundw
                          case rel => exact dig_step HO.out hbz hj1 hje hvM d1 d2 hbox hown3 hbel3 hsz3 HN'
                          case measure => simp [intOf]; omega
                      · have HF : Hid (lexL s.data.toList = ([], k, 2)) := Lib.hid (by
                          rw [← HR.out]
                          refine lex_form hlt' HG.out ?_
                          rw [HT.out, ← HNZ, decide_eq_false hvM, Bool.and_false]; rfl)
                        have hvM' : decide ((1048576 : Int) < (v : Int)) = true := by simp; omega
                        clear HNZ hek hd
                        have h48' : (((s[k].toNat : Int) == 48) = true ∧ decide (k < j) = true) ∨ (((s[k].toNat : Int) == 48) = true ∧ decide (k < j) = false) ∨ (((s[k].toNat : Int) == 48) = false ∧ True) := by
                          by_cases h48 : s[k].toNat = 48
                          · by_cases hjk : k < j
                            · left; rw [beq_iff_eq, decide_eq_true_eq]; omega
                            · right; left; rw [beq_iff_eq, decide_eq_false_iff_not]; omega
                          · right; right; refine ⟨?_, trivial⟩; rw [beq_eq_false_iff_ne]; omega
                        rcases h48' with ⟨q1, q2⟩ | ⟨q1, q2⟩ | ⟨q1, _⟩
                        all_goals
                          go_wp2_with (first
                            | (go_at_call 141; refine (CK2 _).out.mono ?_; rintro e' w' ⟨rfl, rfl⟩))
                          go_ret3
                          exact refOf_err HF.out hbel3
                  · obtain rfl : j = e := by omega
                    have hN := dig_done HKE.out HN.out
                    clear HN
                    by_cases hvM : v ≤ 1048576
                    · rw [if_pos hvM] at hN
                      have ht := HT.out
                      rw [hN, Option.map_some] at ht
                      have hvM' : decide ((1048576 : Int) < (v : Int)) = false := by simp; omega
                      by_cases h5 : l.length = 5000
                      · have HF : Hid (lexL s.data.toList = ([], k, 4)) := Lib.hid (by rw [← HR.out]; exact lex_many hlt' HG.out ht h5)
                        have h5' : 5000 ≤ l.length := by omega
                        clear ht hN h5 hl
                        go_wp2_with fail
                        go_ret3
                        exact refOf_err HF.out hbel3
                      · have HR' : Hid (lexS (s.data.toList.drop j) 0 j (l ++ [⟨2, runL (s.data.toList.drop k), v, k⟩]) = lexL s.data.toList) := Lib.hid (by rw [← HR.out, lex_tok hlt' HG.out ht h5]; simp only [HKE.out])
                        have h5' : l.length + 1 ≤ 5000 := by omega
                        have HO3 := Lib.hid hown3
                        have hz3 := hbel3.size
                        have HZ3 := Lib.hid hsz3
                        clear ht hN h5 hl hown3 HN0 HRB
                        go_wp2_with (first
                          | (at_builtin; refine wpList_append_own _ rfl (.tmp 126) (.tmp 128) 167 rfl w.heap.size 171 i0 _ 4 40 Try.underlying167 HI.out HZ0.out HZ1.out HZ2.out rfl (by omega) _ _ _ rfl (HO3.out.alloc _) ⟨wo.heap.size + 1, 0, none⟩ 1 1 [.int .i64 2, .string (s.extract k j), .int .i64 v, .int .i64 k] rfl rfl (new4 HZ3.out.symm) (one4 _ _ _ _) (by unfold maxLen; omega) (by omega) (by simp; omega) ?_))
                        intro v' w2 hown' hgrow _
                        have hb2 := dig_behind hbel3 HO3.out hgrow
                        have HO' := Lib.hid (ref_row (t := ⟨2, runL (s.data.toList.drop k), v, k⟩) hown' HX.out)
                        clear hown' hgrow
                        go_wp2
                        go_roundw
                        case rel => exact ⟨j, l ++ [⟨2, runL (s.data.toList.drop k), v, k⟩], he2, rfl, HO'.out, hb2, by simpa using h5', HR'⟩
                        case measure => simp [intOf]; omega
                    · rw [if_neg hvM] at hN
                      have HF : Hid (lexL s.data.toList = ([], k, 2)) := Lib.hid (by
                        rw [← HR.out]
                        refine lex_form hlt' HG.out ?_
                        rw [HT.out, hN]; rfl)
                      have hvM' : decide ((1048576 : Int) < (v : Int)) = true := by simp; omega
                      clear hN
                      go_wp2_with fail
                      go_ret3
                      exact refOf_err HF.out hbel3
        · have ht : takeL (s.data.toList.drop k) k = some ⟨3, [59], 0, k⟩ := take_semi hlt (by rw [hcons]; simp only [semiB, decide_eq_true_eq]; exact h1)
          have HX : Hid (s.extract k (k + 1) = ⟨#[59]⟩) := Lib.hid (by
            have : (s.extract k (k + 1)).data.toList = [59] := by
              rw [Lib.extract_data, hcons, show k + 1 - k = 1 from by omega, List.take_succ_cons, List.take_zero]
              congr 1
              exact (u8_eq (n := 59) (by omega)).2 h1
            exact bytes_eq this)
          have CK := fun W => Lib.hid (kind_at (kind_semi h1) W)
          obtain ⟨va, vc, rfl⟩ := own_slice hown
          have HO := Lib.hid hown
          have hbz := hbel.size
          by_cases h5 : l.length = 5000
          · have HF : Hid (lexL s.data.toList = ([], k, 4)) := by rw [← HR.out]; exact lex_many hlt' hg ht h5
            have h5' : 5000 ≤ l.length := by omega
            clear HR ht hcons hg h1 hown h5 hl HX
            go_wp2_with (first
              | (go_at_call 141; refine (CK _).out.mono ?_; rintro e w' ⟨rfl, rfl⟩))
            go_loop [8] (fun e => e = .int .i64 (k + 1)) (fun _ => 0)
            case atStart => rfl
            case round =>
              subst hrel
              go_wp2_with fail
              go_loop [10] (fun e => e = .int .i64 k) (fun _ => 0)
              case atStart => rfl
              case round =>
                subst hrel
                go_wp2_with fail
                go_ret3
                exact refOf_err HF.out (hbel.alloc hbz _)
          · have HR' : Hid (lexS (s.data.toList.drop (k + 1)) 0 (k + 1) (l ++ [⟨3, [59], 0, k⟩]) = lexL s.data.toList) := by rw [← HR.out]; exact (lex_tok hlt' hg ht h5).symm
            have h5' : l.length + 1 ≤ 5000 := by omega
            clear HR ht hcons hg h1 hown h5 hl
            go_wp2_with (first
              | (go_at_call 141; refine (CK _).out.mono ?_; rintro e w' ⟨rfl, rfl⟩))
            go_loop [8] (fun e => e = .int .i64 (k + 1)) (fun _ => 0)
            case atStart => rfl
            case round =>
              subst hrel
              go_wp2_with fail
              go_loop [10] (fun e => e = .int .i64 k) (fun _ => 0)
              case atStart => rfl
              case round =>
                subst hrel
                go_wp2_with (first
                  | (at_builtin; refine wpList_append_own _ rfl (.tmp 126) (.tmp 128) 167 rfl w.heap.size 171 i0 _ 4 40 Try.underlying167 HI.out HZ0.out HZ1.out HZ2.out rfl (by omega) _ _ _ rfl ((HO.out.alloc _).alloc _) ⟨wr.heap.size + 1, 0, none⟩ 1 1 [.int .i64 3, .string (s.extract k (k + 1)), .int .i64 0, .int .i64 k] rfl rfl (new4 (by simp)) (one4 _ _ _ _) (by unfold maxLen; omega) (by omega) (by simp; omega) ?_))
                intro v' w2 hown' hgrow _
                have hb2 := ref_behind hbel HO.out hgrow
                have HO' := Lib.hid (ref_row (t := ⟨3, [59], 0, k⟩) hown' HX.out)
                clear hown' hgrow
                go_wp2
                go_roundw
                case rel => exact ⟨k + 1, l ++ [⟨3, [59], 0, k⟩], hlt, by go_num, HO'.out, hb2, by simpa using h5', HR'⟩
                case measure => simp [intOf]; omega
        · have ht : takeL (s.data.toList.drop k) k = none := by rw [hcons]; exact take_bad k h1 h2 h3
          have HF : Hid (lexL s.data.toList = ([], k, 2)) := by rw [← HR.out]; exact lex_form hlt' hg ht
          have hn : kindN s[k] ≤ 5 := by rcases h0 with h | h <;> omega
          clear HR ht hcons hg h1 h2 h3 hown
          rcases h0 with h0 | h0
          all_goals
            have CK := fun W => Lib.hid (kind_at h0 W)
            clear h0
            go_wp2_with (first
              | (go_at_call 141; refine (CK _).out.mono ?_; rintro e w' ⟨rfl, rfl⟩))
            go_ret3
            exact refOf_err HF.out hbel
    · have HF : Hid (lexL s.data.toList = (l, 0, 0)) := by rw [← HR.out]; exact lex_end (by rw [bytes_len]; omega)
      clear HR
      go_wp2_with fail
      go_ret3
      exact refOf_ok HF.out hown hbel

open Go.RowKit

theorem name_lex {x : List UInt8} (h : nameL x = true) : lexL x = ([⟨1, x, 0, 0⟩], 0, 0) := by
  obtain ⟨c, r, rfl, h1, h2, h3⟩ := nameL_cons h
  have hi : innB c = true := by simp [innB, h2]
  have hr : runL (c :: r) = c :: r := by
    have := runL_app (c :: r) [] (by simp [hi, h3]) (fun _ _ e => by cases e)
    simpa using this
  have ht := take_let (c := c) (r := r) 0 h2
  rw [hr, if_pos (by simp only [List.length_cons]; omega)] at ht
  show lexS (c :: r) 0 0 [] = _
  rw [lexS_tok (inn_notgap hi) ht (by simp)]
  simp [lexS]
theorem lex_name {x : List UInt8} {t : Tok} (h : lexL x = ([t], 0, 0)) (hk : t.kind = 1) (hx : t.text = x) : nameL x = true := by
  rcases lexS_own _ _ _ _ _ h (by simp) t (by simp) with ⟨h1, _⟩ | ⟨_, h2⟩
  · omega
  · rw [hx] at h2
    unfold wordL at h2
    by_cases hn : nameL x = true
    · exact hn
    · rw [if_neg hn] at h2
      cases hv : numL x with
      | none => rw [hv] at h2; simp at h2
      | some v => rw [hv] at h2; injection h2 with h2; rw [← h2] at hk; simp at hk

set_option maxHeartbeats 1000000 in
theorem refName_any (s : ByteArray) (w : World) (hs : s.size ≤ 140737488351232) : Calls Try.prog 117 #[.string s] w fun e w' => e = .returned (.bool (nameL s.data.toList)) ∧ Below w.heap.size w w' := by
  have C := fun W => Lib.hid (ref_any s W (by omega))
  rcases lexS_ends s.data.toList 0 0 [] with ⟨l, hl⟩ | ⟨k, hl⟩ | ⟨k, hl⟩
  all_goals replace hl : lexL s.data.toList = _ := hl
  · by_cases h1 : l.length = 1
    · obtain ⟨t, rfl⟩ : ∃ t, l = [t] := List.length_eq_one_iff.1 h1
      have hb : nameL s.data.toList = (decide (t.kind = 1) && decide (t.text = s.data.toList)) := by
        rw [Bool.eq_iff_iff]
        constructor
        · intro hn
          have := name_lex hn
          rw [hl] at this
          simp only [Prod.mk.injEq, List.cons.injEq, and_true] at this
          rw [this]; simp
        · intro hb
          simp only [Bool.and_eq_true, decide_eq_true_eq] at hb
          exact lex_name hl hb.1 hb.2
      have HB := Lib.hid hb
      rw [hl] at C
      clear hl hb h1
      go_enter Try.func117, Try.ntmps117
      go_wp2_with fail
      refine (C _).out.mono ?_
      rintro e w1 ⟨v, rfl, hown, hb1⟩
      simp only [List.length_cons, List.length_nil, Nat.zero_add] at hown
      obtain ⟨va, vc, rfl⟩ := own_slice hown
      have ht : Toks w1 va 1 [t] := Toks.of_own hown
      obtain ⟨b, off, t', x, rfl, hbl, htk, hx, c0, c1, c2, c3⟩ := ht.at_ (k := 0) (by omega)
      simp only [List.getElem?_cons_zero, Option.some.injEq] at htk
      subst htk
      simp only [Nat.zero_mul, Nat.add_zero] at c0 c1
      have hx' : x.toList = t.text := by rw [hx, Lib.toList_data]
      by_cases hk1 : t.kind = 1
      · have hk1' : ((t.kind : Int) == 1) = true := by rw [beq_iff_eq]; omega
        by_cases hts : t.text = s.data.toList
        · have e1 : (x.toList == s.toList) = true := by rw [beq_iff_eq, hx', hts, Lib.toList_data]
          have HF : Hid (nameL s.data.toList = true) := Lib.hid (by rw [HB.out, decide_eq_true hk1, decide_eq_true hts]; rfl)
          clear hx hx' hown ht hk1 hts HB c2 c3
          go_wp2_with fail
          go_ret
          exact ⟨ret_bool HF.out.symm, hb1⟩
        · have e1 : (x.toList == s.toList) = false := by rw [beq_eq_false_iff_ne, hx', Lib.toList_data]; exact hts
          have HF : Hid (nameL s.data.toList = false) := Lib.hid (by rw [HB.out, decide_eq_false hts, Bool.and_false])
          clear hx hx' hown ht hk1 hts HB c2 c3
          go_wp2_with fail
          go_ret
          exact ⟨ret_bool HF.out.symm, hb1⟩
      · have hk1' : ((t.kind : Int) == 1) = false := by rw [beq_eq_false_iff_ne]; omega
        have HF : Hid (nameL s.data.toList = false) := Lib.hid (by rw [HB.out, decide_eq_false hk1, Bool.false_and])
        clear hx hx' hown ht hk1 HB c1 c2 c3
        go_wp2_with fail
        go_ret
        exact ⟨ret_bool HF.out.symm, hb1⟩
    · have HF : Hid (nameL s.data.toList = false) := Lib.hid (by
        cases hn : nameL s.data.toList with
        | false => rfl
        | true =>
          have := name_lex hn
          rw [hl] at this
          simp only [Prod.mk.injEq, and_true] at this
          rw [this] at h1; simp at h1)
      have h1' : ((l.length : Int) == 1) = false := by rw [beq_eq_false_iff_ne]; omega
      rw [hl] at C
      clear hl h1
      go_enter Try.func117, Try.ntmps117
      go_wp2_with fail
      refine (C _).out.mono ?_
      rintro e w1 ⟨v, rfl, hown, hb1⟩
      simp only at hown
      obtain ⟨va, vc, rfl⟩ := own_slice hown
      clear hown
      go_wp2_with fail
      go_ret
      exact ⟨ret_bool HF.out.symm, hb1⟩
  · have HF : Hid (nameL s.data.toList = false) := Lib.hid (by
      cases hn : nameL s.data.toList with
      | false => rfl
      | true =>
        have := name_lex hn
        rw [hl] at this
        simp at this)
    rw [hl] at C
    clear hl
    go_enter Try.func117, Try.ntmps117
    go_wp2_with fail
    refine (C _).out.mono ?_
    rintro e w1 ⟨v, rfl, hown, hb1⟩
    clear hown
    go_wp2_with fail
    go_ret
    exact ⟨ret_bool HF.out.symm, hb1⟩
  · have HF : Hid (nameL s.data.toList = false) := Lib.hid (by
      cases hn : nameL s.data.toList with
      | false => rfl
      | true =>
        have := name_lex hn
        rw [hl] at this
        simp at this)
    rw [hl] at C
    clear hl
    go_enter Try.func117, Try.ntmps117
    go_wp2_with fail
    refine (C _).out.mono ?_
    rintro e w1 ⟨v, rfl, hown, hb1⟩
    clear hown
    go_wp2_with fail
    go_ret
    exact ⟨ret_bool HF.out.symm, hb1⟩


/-- The words that are no names, as texts. -/
def kwl : List ByteArray := kws.map fun k => ⟨k.toArray⟩
theorem kwl_list : kwl.map ByteArray.toList = kws := by
  unfold kwl
  rw [List.map_map]
  refine List.map_id'' (fun k => ?_) _
  show ByteArray.toList ⟨k.toArray⟩ = k
  rw [Lib.toList_data]
theorem kwl_mem {k : Nat} (h : k < 16) : kwl[k]!.toList ∈ kws := by
  rw [← kwl_list]
  exact List.mem_map.2 ⟨_, mem_at (l := kwl) h, rfl⟩
theorem kw_hit {s : ByteArray} {k : Nat} (h : k < 16) (hq : (s.toList == kwl[k]!.toList) = true) : nameK s.toList = false :=
  nameK_kw (by rw [eq_of_beq hq, List.contains_iff_mem]; exact kwl_mem h)
theorem kw_miss {s : ByteArray} (h : ∀ j, j < 16 → (s.toList == kwl[j]!.toList) = false) : nameK s.toList = nameL s.data.toList := by
  rw [← Lib.toList_data]
  refine nameK_no ?_
  cases hc : kws.contains s.toList with
  | false => rfl
  | true =>
    rw [List.contains_iff_mem, ← kwl_list] at hc
    obtain ⟨x, hx, hxs⟩ := List.mem_map.1 hc
    obtain ⟨j, hj, rfl⟩ := List.getElem_of_mem hx
    have := h j hj
    rw [getElem!_pos kwl j hj, hxs, beq_self_eq_true] at this
    cases this
theorem kw_more {s : ByteArray} {k : Nat} (h : ∀ j, j < k → (s.toList == kwl[j]!.toList) = false) (hk : (s.toList == kwl[k]!.toList) = false) : ∀ j, j < k + 1 → (s.toList == kwl[j]!.toList) = false := by
  intro j hj
  rcases Nat.lt_or_ge j k with h1 | h1
  · exact h j h1
  · obtain rfl : j = k := by omega
    exact hk
theorem kw_row (w : World) (T : TypeId) : Row (w.alloc (.cells (kwl.map Value.string).toArray T)) (some ⟨w.heap.size, 0, none⟩) (kwl.map Value.string) :=
  fun _ => ⟨_, 0, rfl, by simp, fun j u hu => by
    rw [Nat.zero_add]
    exact cell_blk (heap_new _ _) (by rw [List.getElem?_toArray]; exact hu)⟩

set_option maxRecDepth 100000 in
set_option maxHeartbeats 2000000 in
theorem rname_any (s : ByteArray) (w : World) (hs : s.size ≤ 140737488351232) : Calls Try.prog 90 #[.string s] w fun e w' => e = .returned (.bool (nameK s.toList)) ∧ Below w.heap.size w w' := by
  have C := fun W => Lib.hid (refName_any s W hs)
  go_enter Try.func90, Try.ntmps90
  go_wp2_with fail
  go_loopw [4] (fun i wr => ∃ k : Nat, k ≤ 16 ∧ i = .int .i64 k ∧ Hid (∀ j, j < k → (s.toList == kwl[j]!.toList) = false) ∧ Row wr (some ⟨w.heap.size, 0, none⟩) (kwl.map Value.string) ∧ Below w.heap.size w wr) (fun i _ => 16 - (intOf i).toNat)
  case atStart => exact ⟨0, Nat.zero_le _, rfl, Lib.hid (fun j hj => absurd hj (Nat.not_lt_zero _)), kw_row w _, (Below.refl _ _).alloc (Nat.le_refl _) _⟩
  case round =>
    obtain ⟨k, hk, rfl, HR, hr, hB⟩ := hrel
    by_cases hlt : k < 16
    · obtain ⟨b, off, hA, hb, hc⟩ := hr.str_at (l := kwl) (i := k) hlt
      simp only [Option.some.injEq, Addr.mk.injEq, and_true] at hA
      obtain ⟨rfl, rfl⟩ := hA
      rw [Nat.zero_add] at hc
      have hk0 : (0 : Int) ≤ (k : Int) := Int.natCast_nonneg _
      have hk1 : (k : Int) < (16 : Int) := by omega
      cases hq : (s.toList == kwl[k]!.toList) with
      | true =>
        have HF := Lib.hid (kw_hit hlt hq)
        have HRow := Lib.hid hr
        clear HR hr
        generalize kwl[k]! = x at *
        go_wp2_with fail
        go_ret
        exact ⟨ret_bool HF.out.symm, hB⟩
      | false =>
        have HR' := Lib.hid (kw_more HR.out hq)
        have HRow := Lib.hid hr
        clear HR hr
        generalize kwl[k]! = x at *
        go_wp2_with fail
        go_roundw
        case rel => exact ⟨k + 1, hlt, by go_num, HR', HRow.out, hB⟩
        case measure => simp [intOf]; omega
    · obtain rfl : k = 16 := by omega
      have HF := Lib.hid (kw_miss HR.out)
      clear HR hr
      go_wp2_with (go_at_call 117; refine (C _).out.mono ?_; rintro e w' ⟨rfl, hb'⟩)
      go_ret
      exact ⟨ret_bool HF.out.symm, hB.trans (hb'.mono hB.size)⟩

end Go.Proofs.Ytplplkchibefjaa
