/-
  Contracts of lex.isLetter, isDigit, isInner, run, Name, over any byte and any string.
-/
import Derived.Test.YtplplkchibefjaaProg
import Derived.Test.YtplplkchibefjaaLexM
import Derived.WalkKit
import Derived.WalkSpells
import Derived.WalkLawsBesides
import Derived.Lib.Hide
import Derived.Lib.Strings
namespace Go.Proofs.Ytplplkchibefjaa
open Go.RowKit

theorem ret_bool {a b : Bool} (h : a = b) : Ending.returned (.bool a) = .returned (.bool b) := by rw [h]

set_option maxHeartbeats 400000 in
theorem isLetter_any (c : UInt8) (w : World) : Calls Try.prog 135 #[.int .u8 c.toNat] w fun e w' => e = .returned (.bool (letB c)) ∧ w = w' := by
  go_enter Try.func135, Try.ntmps135
  go_wp2
  all_goals go_ret
  all_goals exact ⟨ret_bool (by rw [Bool.eq_iff_iff]; simp [letB]; omega), rfl⟩
set_option maxHeartbeats 400000 in
theorem isDigit_any (c : UInt8) (w : World) : Calls Try.prog 143 #[.int .u8 c.toNat] w fun e w' => e = .returned (.bool (digB c)) ∧ w = w' := by
  go_enter Try.func143, Try.ntmps143
  go_wp2
  all_goals go_ret
  all_goals exact ⟨ret_bool (by rw [Bool.eq_iff_iff]; simp [digB]; omega), rfl⟩
set_option maxHeartbeats 400000 in
theorem isInner_any (c : UInt8) (w : World) : Calls Try.prog 142 #[.int .u8 c.toNat] w fun e w' => e = .returned (.bool (innB c)) ∧ w = w' := by
  go_enter Try.func142, Try.ntmps142
  go_wp2_with (first
    | (go_at_call 135; refine (isLetter_any _ _).mono ?_; rintro e w' ⟨rfl, rfl⟩)
    | (go_at_call 143; refine (isDigit_any _ _).mono ?_; rintro e w' ⟨rfl, rfl⟩))
  all_goals go_ret
  all_goals exact ⟨ret_bool (by rw [Bool.eq_iff_iff]; simp [innB, *]; try omega), rfl⟩

/-- run: all that a word could take. -/
def RunOf (s : ByteArray) (w : World) (e : Ending) (w' : World) : Prop := ∃ t : ByteArray, e = .returned (.string t) ∧ t.data.toList = runL s.data.toList ∧ w = w'
theorem bytes_at (s : ByteArray) (k : Nat) (h : k < s.size) : s.data.toList[k]'(by simpa using h) = s[k] := rfl
theorem bytes_len (s : ByteArray) : s.data.toList.length = s.size := by simp
theorem bytes_pre (s : ByteArray) (k : Nat) : (s.extract 0 k).data.toList = s.data.toList.take k := by simp
theorem run_ends {s : ByteArray} {k : Nat} {w : World} (hr : k ≤ (runL s.data.toList).length) (hs : ∀ hk : k < s.size, innB s[k] = false) : RunOf s w (.returned (.string (s.extract 0 k))) w :=
  ⟨_, rfl, by rw [bytes_pre]; exact (run_stop _ _ hr fun hk => hs (by simpa using hk)).symm, rfl⟩
set_option maxHeartbeats 400000 in
theorem run_any (s : ByteArray) (w : World) (hs : s.size ≤ 140737488355328) : Calls Try.prog 136 #[.string s] w (RunOf s w) := by
  go_enter Try.func136, Try.ntmps136
  go_wp2
  go_loop [3] (fun i => ∃ k : Nat, k ≤ s.size ∧ i = .int .i64 k ∧ k ≤ (runL s.data.toList).length) (fun i => s.size - (intOf i).toNat)
  case atStart => exact ⟨0, Nat.zero_le _, rfl, Nat.zero_le _⟩
  case round =>
    obtain ⟨k, hk, rfl, hr⟩ := hrel
    by_cases hlt : k < s.size
    · cases hin : innB s[k] with
      | true =>
        have hr' : k + 1 ≤ (runL s.data.toList).length := run_step _ k (by simpa using hlt) hin hr
        go_wp2_with (first
          | (go_at_call 142; refine (isInner_any _ _).mono ?_; rintro e w' ⟨rfl, rfl⟩))
        go_round
        case rel => exact ⟨k + 1, hlt, by go_num, hr'⟩
        case measure => simp [intOf]; omega
      | false =>
        have HF : RunOf s w (.returned (.string (s.extract 0 k))) w := run_ends hr fun _ => hin
        go_wp2_with (first
          | (go_at_call 142; refine (isInner_any _ _).mono ?_; rintro e w' ⟨rfl, rfl⟩))
        go_ret
        exact HF
    · have HF : RunOf s w (.returned (.string (s.extract 0 k))) w := run_ends hr fun h => absurd h hlt
      go_wp2_with fail
      go_ret
      exact HF

theorem full_facts {s : ByteArray} (h : 0 < s.size) : ¬ s.toList = [] ∧ s.toList.isEmpty = false := by
  rw [Lib.size_eq, ← Lib.toList_data] at h
  cases hl : s.toList with
  | nil => rw [hl] at h; simp at h
  | cons c r => simp
theorem empty_facts {s : ByteArray} (h : ¬ 0 < s.size) : s.toList = [] ∧ s.toList.isEmpty = true := by
  rw [Lib.size_eq, ← Lib.toList_data] at h
  cases hl : s.toList with
  | nil => simp
  | cons c r => rw [hl] at h; simp at h
theorem bytes_cons {s : ByteArray} (h : 0 < s.size) : s.data.toList = s[0] :: s.data.toList.tail := by
  have h' : 0 < s.data.toList.length := by simpa using h
  have := List.drop_eq_getElem_cons h'
  rw [List.drop_zero] at this
  rw [this]; rfl
theorem name_none {s : ByteArray} (h : ¬ 0 < s.size) : nameL s.data.toList = false := by
  rw [← Lib.toList_data, (empty_facts h).1]; rfl
theorem name_long {s : ByteArray} (h : ¬ s.size ≤ 20) : nameL s.data.toList = false := by
  have h0 : 0 < s.size := by omega
  have hl := bytes_len s
  rw [bytes_cons h0] at hl ⊢
  simp only [List.length_cons] at hl
  have : ¬ s.data.toList.tail.length < 20 := by omega
  rw [nameL, decide_eq_false this, Bool.false_and, Bool.false_and]
theorem name_first {s : ByteArray} (h0 : 0 < s.size) (h : letB s[0] = false) : nameL s.data.toList = false := by
  rw [bytes_cons h0]; simp [nameL, h]
theorem runL_full (l : List UInt8) : (runL l).length = l.length ↔ l.all innB = true := by
  induction l with
  | nil => simp [runL]
  | cons c r ih =>
    by_cases hc : innB c = true
    · rw [runL_cons c r hc]; simp [hc, ih]
    · rw [runL_none c r (by simpa using hc)]; simp [hc]
theorem name_all {s t : ByteArray} (h0 : 0 < s.size) (h1 : s.size ≤ 20) (h : letB s[0] = true) (ht : t.data.toList = runL s.data.toList) : ((t.size : Int) == (s.size : Int)) = nameL s.data.toList := by
  have hl := bytes_len s
  have hf := runL_full s.data.toList
  have hi : innB s[0] = true := by simp [innB, h]
  rw [Lib.size_eq t, ht, ← hl]
  rw [bytes_cons h0] at hf hl ⊢
  simp only [List.length_cons] at hl
  have : s.data.toList.tail.length < 20 := by omega
  simp only [List.all_cons, hi, Bool.true_and] at hf
  simp only [nameL, h, Bool.and_true]
  rw [decide_eq_true this, Bool.true_and]
  rw [Bool.eq_iff_iff, beq_iff_eq, ← hf]
  omega

set_option maxHeartbeats 400000 in
theorem name_any (s : ByteArray) (w : World) (hs : s.size ≤ 140737488355328) : Calls Try.prog 123 #[.string s] w fun e w' => e = .returned (.bool (nameL s.data.toList)) ∧ w = w' := by
  by_cases h0 : 0 < s.size
  · obtain ⟨f1, f2⟩ := full_facts h0
    by_cases h1 : s.size ≤ 20
    · cases hin : letB s[0] with
      | true =>
        go_enter Try.func123, Try.ntmps123
        go_wp2_with (first
          | (go_at_call 135; refine (isLetter_any _ _).mono ?_; rintro e w' ⟨rfl, rfl⟩)
          | (go_at_call 136; refine (run_any _ _ hs).mono ?_; rintro e w' ⟨t, rfl, ht, rfl⟩; have HT := Lib.hid ht; clear ht))
        go_ret
        exact ⟨ret_bool (name_all h0 h1 hin HT.out), rfl⟩
      | false =>
        have HN := Lib.hid (name_first h0 hin)
        go_enter Try.func123, Try.ntmps123
        go_wp2_with (first
          | (go_at_call 135; refine (isLetter_any _ _).mono ?_; rintro e w' ⟨rfl, rfl⟩))
        go_ret
        exact ⟨ret_bool HN.out.symm, rfl⟩
    · have HN := Lib.hid (name_long h1)
      go_enter Try.func123, Try.ntmps123
      go_wp2_with fail
      go_ret
      exact ⟨ret_bool HN.out.symm, rfl⟩
  · obtain ⟨f1, f2⟩ := empty_facts h0
    have HN := Lib.hid (name_none h0)
    go_enter Try.func123, Try.ntmps123
    go_wp2_with fail
    go_ret
    exact ⟨ret_bool HN.out.symm, rfl⟩

end Go.Proofs.Ytplplkchibefjaa
