/-
  Plain facts for the document's own answer of layer 1: kinds of bytes, how a number is read there; and the contract of its kind.
-/
import Derived.Test.YtandfjahfbeaiaaGreatLxT
import Derived.Test.YtandfjahfbeaiaaGreatLexP
namespace Go.Proofs.YtandfjahfbeaiaaGreat
open Go.RowKit

def kindN (c : UInt8) : Nat :=
  if letB c then 1 else if digB c then 2 else if c.toNat = 95 then 3 else if c.toNat = 59 then 4 else if gapB c then 5 else 0

theorem kind_let {c : UInt8} (h : letB c = true) : kindN c = 1 := by simp [kindN, h]
theorem kind_dig {c : UInt8} (h : digB c = true) : kindN c = 2 := by
  have : letB c = false := by simp [letB, digB] at h ⊢; omega
  simp [kindN, h, this]
theorem kind_gap {c : UInt8} (h : gapB c = true) : kindN c = 5 := by
  have h1 : letB c = false := by simp [letB, gapB] at h ⊢; omega
  have h2 : digB c = false := by simp [digB, gapB] at h ⊢; omega
  have h3 : ¬ c.toNat = 95 ∧ ¬ c.toNat = 59 := by simp [gapB] at h; omega
  simp [kindN, h, h1, h2, h3]
theorem kind_semi {c : UInt8} (h : c.toNat = 59) : kindN c = 4 := by
  have h1 : letB c = false := by simp [letB, h]
  have h2 : digB c = false := by simp [digB, h]
  simp [kindN, h, h1, h2]
theorem kind_inn (c : UInt8) : (1 ≤ kindN c ∧ kindN c ≤ 3) ↔ innB c = true := by
  unfold kindN innB
  by_cases h1 : letB c = true
  · simp [h1]
  · by_cases h2 : digB c = true
    · simp [h1, h2]
    · by_cases h3 : c.toNat = 95
      · simp [h1, h2, h3]
      · by_cases h4 : c.toNat = 59
        · simp [h1, h2, h4]
        · by_cases h5 : gapB c = true <;> simp [h1, h2, h3, h4, h5]
/-- Of a byte that is no blank: what kind of token begins there. -/
theorem kind_cases (c : UInt8) (hg : gapB c = false) : (letB c = true) ∨ (digB c = true) ∨ (c.toNat = 59) ∨ ((kindN c = 0 ∨ kindN c = 3) ∧ letB c = false ∧ digB c = false ∧ ¬ c.toNat = 59) := by
  by_cases h1 : letB c = true
  · exact .inl h1
  · by_cases h2 : digB c = true
    · exact .inr (.inl h2)
    · by_cases h3 : c.toNat = 59
      · exact .inr (.inr (.inl h3))
      · refine .inr (.inr (.inr ⟨?_, by simpa using h1, by simpa using h2, h3⟩))
        unfold kindN
        by_cases h4 : c.toNat = 95 <;> simp [h1, h2, h3, h4, hg]
theorem take_bad {c : UInt8} {r : List UInt8} (k : Nat) (h1 : letB c = false) (h2 : digB c = false) (h3 : ¬ c.toNat = 59) : takeL (c :: r) k = none := by
  simp only [takeL]
  rw [if_neg h3]
  by_cases hi : innB c = true
  · rw [runL_cons c r hi]
    have hn : nameL (c :: runL r) = false := by simp [nameL, h1]
    have h48 : ¬ c.toNat = 48 := by intro e; simp [digB, e] at h2
    have hv : numL (c :: runL r) = none := by
      rw [numL, if_neg (by simp [h48]), numGo, h2]; simp
    simp [wordL, hn, hv]
  · rw [runL_none c r (by simpa using hi)]
    simp [wordL, nameL, numL]
theorem take_let {c : UInt8} {r : List UInt8} (k : Nat) (h1 : letB c = true) : takeL (c :: r) k = if (runL (c :: r)).length ≤ 20 then some ⟨1, runL (c :: r), 0, k⟩ else none := by
  have hi : innB c = true := by simp [innB, h1]
  have h59 : ¬ c.toNat = 59 := by intro e; simp [letB, e] at h1
  have h48 : ¬ c.toNat = 48 := by intro e; simp [letB, e] at h1
  have hd : digB c = false := by simp [letB, digB] at h1 ⊢; omega
  have ha := runL_all r
  simp only [takeL]
  rw [if_neg h59, runL_cons c r hi]
  have hv : numL (c :: runL r) = none := by rw [numL, if_neg (by simp [h48]), numGo, hd]; simp
  by_cases hl : (runL r).length < 20
  · have hn : nameL (c :: runL r) = true := by rw [nameL, decide_eq_true hl, h1, ha]; rfl
    rw [if_pos (by simp only [List.length_cons]; omega)]
    simp [wordL, hn]
  · have hn : nameL (c :: runL r) = false := by rw [nameL, decide_eq_false hl]; rfl
    rw [if_neg (by simp only [List.length_cons]; omega)]
    simp [wordL, hn, hv]
theorem take_dig {c : UInt8} {r : List UInt8} (k : Nat) (h1 : digB c = true) : takeL (c :: r) k = (numL (runL (c :: r))).map fun v => ⟨2, runL (c :: r), v, k⟩ := by
  have hi : innB c = true := by simp [innB, h1]
  have h59 : ¬ c.toNat = 59 := by intro e; simp [digB, e] at h1
  have hlt : letB c = false := by simp [letB, digB] at h1 ⊢; omega
  simp only [takeL]
  rw [if_neg h59, runL_cons c r hi]
  have hn : nameL (c :: runL r) = false := by simp [nameL, hlt]
  unfold wordL
  rw [hn]
  cases numL (c :: runL r) <;> rfl

/-- How the document's answer reads a number: too great is asked one digit late; z: does it begin with 0; f: is this the first digit. -/
def numR (z f : Bool) : Nat → List UInt8 → Option Nat
  | v, [] => if v ≤ 1048576 then some v else none
  | v, c :: r => if digB c && !(z && !f) && decide (v ≤ 1048576) then numR z false (10 * v + (c.toNat - 48)) r else none
theorem numR_plain (f : Bool) : ∀ (r : List UInt8) (v : Nat), numR false f v r = if v ≤ 1048576 then numGo v r else none
  | [], v => by simp [numR, numGo]
  | c :: r, v => by
    rw [numR, numGo, numR_plain false r]
    by_cases hv : v ≤ 1048576
    · by_cases hd : digB c = true
      · simp [hv, hd, Nat.mul_comm]
      · simp [hd]
    · simp [hv]
theorem numR_is (c : UInt8) (r : List UInt8) : numR (decide (c.toNat = 48)) true 0 (c :: r) = numL (c :: r) := by
  by_cases h : c.toNat = 48
  · have hd : digB c = true := by simp [digB, h]
    cases r with
    | nil => simp [h, numR, numL, numGo, hd]
    | cons a r => simp [h, numR, numL, hd]
  · rw [decide_eq_false h, numR_plain, if_pos (by omega), numL, if_neg (fun e => h e.1)]

theorem ret_int {a b : Int} (h : a = b) : Ending.returned (.int .i64 a) = .returned (.int .i64 b) := by rw [h]
set_option maxHeartbeats 1000000 in
theorem kind_any (c : UInt8) (w : World) : Calls Tryz.prog 118 #[.int .u8 c.toNat] w fun e w' => e = .returned (.int .i64 (kindN c)) ∧ w = w' := by
  go_enter Tryz.func118, Tryz.ntmps118
  go_wp2
  all_goals go_ret
  all_goals
    refine ⟨ret_int ?_, rfl⟩
    try simp only [beq_iff_eq, beq_eq_false_iff_ne] at *
    simp only [kindN, letB, digB, gapB, Bool.and_eq_true, Bool.or_eq_true, decide_eq_true_eq]
    repeat' split
    all_goals omega
end Go.Proofs.YtandfjahfbeaiaaGreat
