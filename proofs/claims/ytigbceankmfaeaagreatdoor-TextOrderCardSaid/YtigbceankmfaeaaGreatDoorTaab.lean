/-
  Contracts of lex.isLetter, isDigit, isInner, isGap, run, over any byte and any string. Contracts of strings.HasPrefix at a semicolon, and of lex.take.
-/
import Derived.Test.YtigbceankmfaeaaGreatDoorTaaa
import Derived.Test.YtigbceankmfaeaaGreatDoorProg
import Derived.WalkKit
import Derived.WalkSpells
import Derived.WalkLawsBesides
import Derived.Lib.Hide
import Derived.Lib.Strings
import Derived.Lib.IndexBytes
namespace Go.Proofs.YtigbceankmfaeaaGreatDoor.Lx
open Go.RowKit
theorem ret_bool {a b : Bool} (h : a = b) : Ending.returned (.bool a) = .returned (.bool b) := by rw [h]
set_option maxHeartbeats 400000 in
theorem isLetter_any (c : UInt8) (w : World) : Calls Tryz.prog 104 #[.int .u8 c.toNat] w fun e w' => e = .returned (.bool (letB c)) ∧ w = w' := by
  go_enter Tryz.func104, Tryz.ntmps104
  go_wp2
  all_goals go_ret
  all_goals exact ⟨ret_bool (by rw [Bool.eq_iff_iff]; simp [letB]; omega), rfl⟩
set_option maxHeartbeats 400000 in
theorem isDigit_any (c : UInt8) (w : World) : Calls Tryz.prog 105 #[.int .u8 c.toNat] w fun e w' => e = .returned (.bool (digB c)) ∧ w = w' := by
  go_enter Tryz.func105, Tryz.ntmps105
  go_wp2
  all_goals go_ret
  all_goals exact ⟨ret_bool (by rw [Bool.eq_iff_iff]; simp [digB]; omega), rfl⟩
set_option maxHeartbeats 400000 in
theorem isGap_any (c : UInt8) (w : World) : Calls Tryz.prog 34 #[.int .u8 c.toNat] w fun e w' => e = .returned (.bool (gapB c)) ∧ w = w' := by
  go_enter Tryz.func34, Tryz.ntmps34
  go_wp2
  all_goals go_ret
  all_goals exact ⟨ret_bool (by rw [Bool.eq_iff_iff]; simp [gapB]; omega), rfl⟩
set_option maxHeartbeats 400000 in
theorem isInner_any (c : UInt8) (w : World) : Calls Tryz.prog 103 #[.int .u8 c.toNat] w fun e w' => e = .returned (.bool (innB c)) ∧ w = w' := by
  go_enter Tryz.func103, Tryz.ntmps103
  go_wp2_with (first
    | (go_at_call 104; refine (isLetter_any _ _).mono ?_; rintro e w' ⟨rfl, rfl⟩)
    | (go_at_call 105; refine (isDigit_any _ _).mono ?_; rintro e w' ⟨rfl, rfl⟩))
  all_goals go_ret
  all_goals exact ⟨ret_bool (by rw [Bool.eq_iff_iff]; simp [innB, *]; try omega), rfl⟩
/-- run: all that a word could take. -/
def RunOf (s : ByteArray) (w : World) (e : Ending) (w' : World) : Prop := ∃ t : ByteArray, e = .returned (.string t) ∧ t.data.toList = runL s.data.toList ∧ w = w'
theorem bytes_len (s : ByteArray) : s.data.toList.length = s.size := by simp
theorem bytes_pre (s : ByteArray) (k : Nat) : (s.extract 0 k).data.toList = s.data.toList.take k := by simp
theorem run_ends {s : ByteArray} {k : Nat} {w : World} (hr : k ≤ (runL s.data.toList).length) (hs : ∀ hk : k < s.size, innB s[k] = false) : RunOf s w (.returned (.string (s.extract 0 k))) w :=
  ⟨_, rfl, by rw [bytes_pre]; exact (run_stop _ _ hr fun hk => hs (by simpa using hk)).symm, rfl⟩
set_option maxHeartbeats 400000 in
theorem run_any (s : ByteArray) (w : World) (hs : s.size ≤ 140737488355328) : Calls Tryz.prog 64 #[.string s] w (RunOf s w) := by
  go_enter Tryz.func64, Tryz.ntmps64
  go_wp2
  go_loop [3] (fun i => ∃ k : Nat, k ≤ s.size ∧ i = .int .i64 k ∧ k ≤ (runL s.data.toList).length) (fun i => s.size - (intOf i).toNat)
  case atStart => exact ⟨0, Nat.zero_le _, rfl, Nat.zero_le _⟩
  case round =>
    obtain ⟨k, hk, rfl, hr⟩ := hrel
    by_cases hlt : k < s.size
    · cases hin : innB s[k] with
      | true =>
        have hr' : k + 1 ≤ (runL s.data.toList).length := run_step _ k (by simpa using hlt) hin hr
        go_wp2_with (first
          | (go_at_call 103; refine (isInner_any _ _).mono ?_; rintro e w' ⟨rfl, rfl⟩))
        go_round
        case rel => exact ⟨k + 1, hlt, by go_num, hr'⟩
        case measure => simp [intOf]; omega
      | false =>
        have HF : RunOf s w (.returned (.string (s.extract 0 k))) w := run_ends hr fun _ => hin
        go_wp2_with (first
          | (go_at_call 103; refine (isInner_any _ _).mono ?_; rintro e w' ⟨rfl, rfl⟩))
        go_ret
        exact HF
    · have HF : RunOf s w (.returned (.string (s.extract 0 k))) w := run_ends hr fun h => absurd h hlt
      go_wp2_with fail
      go_ret
      exact HF
theorem full_facts {s : ByteArray} (h : 0 < s.size) : ¬ s.toList = [] ∧ s.toList.isEmpty = false := by
  rw [Lib.size_eq, ← Lib.toList_data] at h
  cases hl : s.toList with
  | nil => rw [hl] at h; simp at h
  | cons c r => simp
theorem empty_facts {s : ByteArray} (h : ¬ 0 < s.size) : s.toList = [] ∧ s.toList.isEmpty = true := by
  rw [Lib.size_eq, ← Lib.toList_data] at h
  cases hl : s.toList with
  | nil => simp
  | cons c r => rw [hl] at h; simp at h
theorem bytes_cons {s : ByteArray} (h : 0 < s.size) : s.data.toList = s[0] :: s.data.toList.tail := by
  have h' : 0 < s.data.toList.length := by simpa using h
  have := List.drop_eq_getElem_cons h'
  rw [List.drop_zero] at this
  rw [this]; rfl
theorem name_none {s : ByteArray} (h : ¬ 0 < s.size) : nameL s.data.toList = false := by
  rw [← Lib.toList_data, (empty_facts h).1]; rfl
theorem name_long {s : ByteArray} (h : ¬ s.size ≤ 20) : nameL s.data.toList = false := by
  have h0 : 0 < s.size := by omega
  have hl := bytes_len s
  rw [bytes_cons h0] at hl ⊢
  simp only [List.length_cons] at hl
  have : ¬ s.data.toList.tail.length < 20 := by omega
  rw [nameL, decide_eq_false this, Bool.false_and, Bool.false_and]
theorem name_first {s : ByteArray} (h0 : 0 < s.size) (h : letB s[0] = false) : nameL s.data.toList = false := by
  rw [bytes_cons h0]; simp [nameL, h]
theorem runL_full (l : List UInt8) : (runL l).length = l.length ↔ l.all innB = true := by
  induction l with
  | nil => simp [runL]
  | cons c r ih =>
    by_cases hc : innB c = true
    · rw [runL_cons c r hc]; simp [hc, ih]
    · rw [runL_none c r (by simpa using hc)]; simp [hc]
theorem name_all {s t : ByteArray} (h0 : 0 < s.size) (h1 : s.size ≤ 20) (h : letB s[0] = true) (ht : t.data.toList = runL s.data.toList) : ((t.size : Int) == (s.size : Int)) = nameL s.data.toList := by
  have hl := bytes_len s
  have hf := runL_full s.data.toList
  have hi : innB s[0] = true := by simp [innB, h]
  rw [Lib.size_eq t, ht, ← hl]
  rw [bytes_cons h0] at hf hl ⊢
  simp only [List.length_cons] at hl
  have : s.data.toList.tail.length < 20 := by omega
  simp only [List.all_cons, hi, Bool.true_and] at hf
  simp only [nameL, h, Bool.and_true]
  rw [decide_eq_true this, Bool.true_and]
  rw [Bool.eq_iff_iff, beq_iff_eq, ← hf]
  omega
set_option maxHeartbeats 400000 in
theorem name_any (s : ByteArray) (w : World) (hs : s.size ≤ 140737488355328) : Calls Tryz.prog 65 #[.string s] w fun e w' => e = .returned (.bool (nameL s.data.toList)) ∧ w = w' := by
  by_cases h0 : 0 < s.size
  · obtain ⟨f1, f2⟩ := full_facts h0
    by_cases h1 : s.size ≤ 20
    · cases hin : letB s[0] with
      | true =>
        go_enter Tryz.func65, Tryz.ntmps65
        go_wp2_with (first
          | (go_at_call 104; refine (isLetter_any _ _).mono ?_; rintro e w' ⟨rfl, rfl⟩)
          | (go_at_call 64; refine (run_any _ _ hs).mono ?_; rintro e w' ⟨t, rfl, ht, rfl⟩; have HT := Lib.hid ht; clear ht))
        go_ret
        exact ⟨ret_bool (name_all h0 h1 hin HT.out), rfl⟩
      | false =>
        have HN := Lib.hid (name_first h0 hin)
        go_enter Tryz.func65, Tryz.ntmps65
        go_wp2_with (first
          | (go_at_call 104; refine (isLetter_any _ _).mono ?_; rintro e w' ⟨rfl, rfl⟩))
        go_ret
        exact ⟨ret_bool HN.out.symm, rfl⟩
    · have HN := Lib.hid (name_long h1)
      go_enter Tryz.func65, Tryz.ntmps65
      go_wp2_with fail
      go_ret
      exact ⟨ret_bool HN.out.symm, rfl⟩
  · obtain ⟨f1, f2⟩ := empty_facts h0
    have HN := Lib.hid (name_none h0)
    go_enter Tryz.func65, Tryz.ntmps65
    go_wp2_with fail
    go_ret
    exact ⟨ret_bool HN.out.symm, rfl⟩
/-- number: the value, and whether it is one. -/
def NumOf (l : List UInt8) (w : World) (e : Ending) (w' : World) : Prop :=
  (match numL l with
   | some v => e = .returned (.tuple #[.int .i64 v, .bool true])
   | none => e = .returned (.tuple #[.int .i64 0, .bool false])) ∧ w = w'
theorem numOf_some {l : List UInt8} {v : Nat} (w : World) (h : numL l = some v) : NumOf l w (.returned (.tuple #[.int .i64 v, .bool true])) w := by unfold NumOf; rw [h]; exact ⟨rfl, rfl⟩
theorem numOf_none {l : List UInt8} (w : World) (h : numL l = none) : NumOf l w (.returned (.tuple #[.int .i64 0, .bool false])) w := by unfold NumOf; rw [h]; exact ⟨rfl, rfl⟩
theorem num_empty {s : ByteArray} (h : ¬ 0 < s.size) : numL s.data.toList = none := by
  rw [← Lib.toList_data, (empty_facts h).1]; rfl
theorem num_zero {s : ByteArray} (h0 : 0 < s.size) (h : s[0].toNat = 48) (h1 : 1 < s.size) : numL s.data.toList = none := by
  have hl := bytes_len s
  rw [bytes_cons h0] at hl ⊢
  have : s.data.toList.tail ≠ [] := by
    intro e; rw [e] at hl; simp at hl; omega
  rw [numL, if_pos ⟨h, this⟩]
theorem num_begin {s : ByteArray} (h0 : 0 < s.size) (h : ¬ (s[0].toNat = 48 ∧ 1 < s.size)) : numGo 0 (s.data.toList.drop 0) = numL s.data.toList := by
  have hl := bytes_len s
  rw [List.drop_zero]
  rw [bytes_cons h0] at hl ⊢
  rw [numL, if_neg]
  rintro ⟨h1, h2⟩
  apply h
  refine ⟨h1, ?_⟩
  cases ht : s.data.toList.tail with
  | nil => exact absurd ht h2
  | cons c r => rw [ht] at hl; simp at hl; omega
theorem num_cons {s : ByteArray} {k v : Nat} (hk : k < s.size) : numGo v (s.data.toList.drop k) = if digB s[k] then (if v * 10 + (s[k].toNat - 48) ≤ 1048576 then numGo (v * 10 + (s[k].toNat - 48)) (s.data.toList.drop (k + 1)) else none) else none := by
  rw [List.drop_eq_getElem_cons (by simpa using hk), numGo]; rfl
theorem num_end {s : ByteArray} {k v : Nat} (hk : ¬ k < s.size) : numGo v (s.data.toList.drop k) = some v := by
  rw [List.drop_eq_nil_of_le (by simp; omega), numGo]
theorem dig_facts {c : UInt8} (h : digB c = true) : 48 ≤ c.toNat ∧ c.toNat ≤ 57 := by simpa [digB] using h
set_option maxHeartbeats 1000000 in
theorem number_any (s : ByteArray) (w : World) (hs : s.size ≤ 140737488355328) : Calls Tryz.prog 66 #[.string s] w (NumOf s.data.toList w) := by
  by_cases h0 : 0 < s.size
  · obtain ⟨f1, f2⟩ := full_facts h0
    by_cases h1 : s[0].toNat = 48 ∧ 1 < s.size
    · have c1 : ((s[0].toNat : Int) == 48) = true := by simpa using (by omega : (s[0].toNat : Int) = 48)
      have HF := numOf_none w (num_zero h0 h1.1 h1.2)
      obtain ⟨_, h2⟩ := h1
      go_enter Tryz.func66, Tryz.ntmps66
      go_wp2_with fail
      go_ret2
      exact HF
    · have HB := Lib.hid (num_begin h0 h1)
      have h1' : (s[0].toNat = 48 ∧ s.size ≤ 1) ∨ ¬ s[0].toNat = 48 := by omega
      clear h1
      rcases h1' with ⟨h48, hone⟩ | h48
      all_goals
        go_enter Tryz.func66, Tryz.ntmps66
        go_wp2_with fail
        go_loop [4, 5, 20] (fun x _ i => ∃ k v : Nat, k ≤ s.size ∧ i = .int .i64 k ∧ x = .int .i64 v ∧ v ≤ 1048576 ∧ Hid (numGo v (s.data.toList.drop k) = numL s.data.toList)) (fun _ _ i => s.size - (intOf i).toNat)
        case atStart => exact ⟨0, 0, Nat.zero_le _, rfl, rfl, by omega, HB⟩
        case round =>
          obtain ⟨k, v, hk, rfl, rfl, hv, HR⟩ := hrel
          by_cases hlt : k < s.size
          · cases hd : digB s[k] with
            | true =>
              obtain ⟨d1, d2⟩ := dig_facts hd
              by_cases hm : v * 10 + (s[k].toNat - 48) ≤ 1048576
              · have HR' : Hid (numGo (v * 10 + (s[k].toNat - 48)) (s.data.toList.drop (k + 1)) = numL s.data.toList) := by
                  have h := HR.out; rw [num_cons hlt, hd, if_pos rfl, if_pos hm] at h; exact h
                clear HR
                go_wp2_with (first
                  | (go_at_call 105; refine (isDigit_any _ _).mono ?_; rintro e w' ⟨rfl, rfl⟩))
                go_round
                case rel => exact ⟨k + 1, v * 10 + (s[k].toNat - 48), hlt, by go_num, by go_num, hm, HR'⟩
                case measure => simp [intOf]; omega
              · have HF := numOf_none w (by have h := HR.out; rw [num_cons hlt, hd, if_pos rfl, if_neg hm] at h; exact h.symm)
                clear HR
                go_wp2_with (first
                  | (go_at_call 105; refine (isDigit_any _ _).mono ?_; rintro e w' ⟨rfl, rfl⟩))
                go_ret2
                exact HF
            | false =>
              have HF := numOf_none w (by have h := HR.out; rw [num_cons hlt, hd] at h; exact h.symm)
              clear HR
              go_wp2_with (first
                | (go_at_call 105; refine (isDigit_any _ _).mono ?_; rintro e w' ⟨rfl, rfl⟩))
              go_ret2
              exact HF
          · have HF := numOf_some w (by have h := HR.out; rw [num_end hlt] at h; exact h.symm)
            clear HR
            go_wp2_with fail
            go_ret2
            exact HF
  · obtain ⟨f1, f2⟩ := empty_facts h0
    have HF := numOf_none w (num_empty h0)
    go_enter Tryz.func66, Tryz.ntmps66
    go_wp2_with fail
    go_ret2
    exact HF
end Go.Proofs.YtigbceankmfaeaaGreatDoor.Lx

namespace Go.Proofs.YtigbceankmfaeaaGreatDoor.Lx
open Go.RowKit
def semiB : List UInt8 → Bool
  | [] => false
  | c :: _ => decide (c.toNat = 59)
theorem u8_eq {c : UInt8} {n : Nat} (h : n < 256) : c = UInt8.ofNat n ↔ c.toNat = n := by
  constructor
  · rintro rfl; simp; omega
  · intro e; apply UInt8.toNat_inj.1; simp; omega
theorem semi_full {s : ByteArray} (h0 : 0 < s.size) : ((s.extract 0 1).toList == [59]) = semiB s.data.toList := by
  rw [Lib.toList_data, bytes_pre, bytes_cons h0]
  simp only [List.take_succ_cons, List.take_zero, semiB]
  rw [Bool.eq_iff_iff]
  have := u8_eq (c := s[0]) (n := 59) (by omega)
  simp at this ⊢
  exact this
set_option maxHeartbeats 400000 in
theorem semi_any (s : ByteArray) (w : World) : Calls Tryz.prog 63 #[.string s, .string ⟨#[59]⟩] w fun e w' => e = .returned (.bool (semiB s.data.toList)) ∧ w = w' := by
  by_cases h0 : 0 < s.size
  · go_enter Tryz.func63, Tryz.ntmps63
    go_wp2
    go_ret
    exact ⟨ret_bool (semi_full h0), rfl⟩
  · have HN : Hid (semiB s.data.toList = false) := by rw [← Lib.toList_data, (empty_facts h0).1]; exact rfl
    go_enter Tryz.func63, Tryz.ntmps63
    go_wp2
    go_ret
    exact ⟨ret_bool HN.out.symm, rfl⟩
/-- A token as a value, and as the cells that it takes. -/
def tokA (t : Tok) : Array Value := #[.int .i64 t.kind, .string ⟨t.text.toArray⟩, .int .i64 t.val, .int .i64 t.loc]
def takeV : Option Tok → Value
  | some t => .tuple #[.agg (tokA t), .bool true]
  | none => .tuple #[.agg #[.int .i64 0, .string ⟨#[]⟩, .int .i64 0, .int .i64 0], .bool false]
def TakeOf (r : List UInt8) (k : Nat) (w : World) (e : Ending) (w' : World) : Prop := e = .returned (takeV (takeL r k)) ∧ Below w.heap.size w w'
theorem bytes_eq {t : ByteArray} {l : List UInt8} (h : t.data.toList = l) : t = ⟨l.toArray⟩ := by subst h; simp
theorem take_semi {s : ByteArray} {k : Nat} (hk : k < s.size) (h : semiB (s.data.toList.drop k) = true) : takeL (s.data.toList.drop k) k = some ⟨3, [59], 0, k⟩ := by
  rw [List.drop_eq_getElem_cons (by simpa using hk)] at h ⊢
  simp only [semiB, decide_eq_true_eq] at h
  simp only [takeL, h, if_true]
  rw [(u8_eq (n := 59) (by omega)).2 h]; rfl
theorem take_word {s t : ByteArray} {k : Nat} (hk : k < s.size) (h : semiB (s.data.toList.drop k) = false) (ht : t.data.toList = runL (s.data.toList.drop k)) : takeL (s.data.toList.drop k) k = wordL t.data.toList k := by
  rw [ht]
  rw [List.drop_eq_getElem_cons (by simpa using hk)] at h ⊢
  simp only [semiB, decide_eq_false_iff_not] at h
  rw [takeL, if_neg h]
theorem word_name {l : List UInt8} {k : Nat} (h : nameL l = true) : wordL l k = some ⟨1, l, 0, k⟩ := by simp [wordL, h]
theorem word_num {l : List UInt8} {k v : Nat} (h : nameL l = false) (hv : numL l = some v) : wordL l k = some ⟨2, l, v, k⟩ := by simp [wordL, h, hv]
theorem word_none {l : List UInt8} {k : Nat} (h : nameL l = false) (hv : numL l = none) : wordL l k = none := by simp [wordL, h, hv]
set_option maxHeartbeats 1000000 in
theorem take_any (s : ByteArray) (k : Nat) (w : World) (hk : k < s.size) (hs : s.size ≤ 140737488351232) : Calls Tryz.prog 35 #[.string s, .int .i64 k] w (TakeOf (s.data.toList.drop k) k w) := by
  have he : (s.extract k s.size).data.toList = s.data.toList.drop k := Lib.extract_to_end s k
  have hz : (s.extract k s.size).size ≤ 140737488355328 := by simp; omega
  have c26 : ∀ W, Calls Tryz.prog 63 #[.string (s.extract k s.size), .string ⟨#[59]⟩] W fun e w' => e = .returned (.bool (semiB (s.data.toList.drop k))) ∧ W = w' := by
    intro W; rw [← he]; exact semi_any _ W
  have c21 : ∀ W, Calls Tryz.prog 64 #[.string (s.extract k s.size)] W fun e w' => ∃ t : ByteArray, (e = .returned (.string t) ∧ W = w') ∧ t.data.toList = runL (s.data.toList.drop k) := by
    intro W; rw [← he]; exact (run_any _ W hz).mono fun e w' ⟨t, h1, h2, h3⟩ => ⟨t, ⟨h1, h3⟩, h2⟩
  have C26 := Lib.hid c26
  have C21 := Lib.hid c21
  clear c26 c21 he hz
  cases hsm : semiB (s.data.toList.drop k) with
  | true =>
    have HT := Lib.hid (take_semi hk hsm)
    rw [hsm] at C26
    clear hsm
    go_enter Tryz.func35, Tryz.ntmps35
    go_wp2_with (first
      | (go_at_call 63; refine (C26.out _).mono ?_; rintro e w' ⟨rfl, rfl⟩))
    refine bodyPost_ret (v := .tuple #[.agg #[.int .i64 3, .string ⟨#[59]⟩, .int .i64 0, .int .i64 k], .bool true]) (by simp [results, Tryz.results35, go_sem]) rfl ⟨by rw [HT.out]; rfl, ?_⟩
    exact (Below.refl _ _).alloc (Nat.le_refl _) _
  | false =>
    have HT : Hid (∀ t : ByteArray, t.data.toList = runL (s.data.toList.drop k) → takeL (s.data.toList.drop k) k = wordL t.data.toList k ∧ t.size ≤ 140737488355328) := by
      intro t ht
      refine ⟨take_word hk hsm ht, ?_⟩
      have := runL_le (s.data.toList.drop k)
      rw [← ht, List.length_drop, bytes_len, bytes_len] at this
      omega
    rw [hsm] at C26
    clear hsm
    go_enter Tryz.func35, Tryz.ntmps35
    go_wp2_with (first
      | (go_at_call 63; refine (C26.out _).mono ?_; rintro e w' ⟨rfl, rfl⟩)
      | (go_at_call 64; refine (C21.out _).mono ?_; rintro e w' ⟨t, ⟨rfl, rfl⟩, ht⟩; obtain ⟨HW, hts⟩ : Hid (takeL (s.data.toList.drop k) k = wordL t.data.toList k) ∧ t.size ≤ 140737488355328 := HT.out t ht; clear ht HT)
      | fail)
    cases hn : nameL t.data.toList with
    | true =>
      have HN := Lib.hid hn
      have c13 : ∀ W, Calls Tryz.prog 65 #[.string t] W fun e w' => e = .returned (.bool true) ∧ W = w' := fun W => by rw [← hn]; exact name_any t W hts
      have C13 := Lib.hid c13
      clear hn c13
      go_wp2_with (first
        | (go_at_call 65; refine (C13.out _).mono ?_; rintro e w' ⟨rfl, rfl⟩))
      refine bodyPost_ret (v := .tuple #[.agg #[.int .i64 1, .string t, .int .i64 0, .int .i64 k], .bool true]) (by simp [results, Tryz.results35, go_sem]) rfl ⟨?_, ?_⟩
      · rw [HW.out, word_name HN.out]; exact congrArg (fun x => Ending.returned (.tuple #[.agg #[.int .i64 1, .string x, .int .i64 0, .int .i64 k], .bool true])) (bytes_eq (t := t) rfl)
      · exact (Below.refl _ _).alloc (Nat.le_refl _) _
    | false =>
      have HN := Lib.hid hn
      have c13 : ∀ W, Calls Tryz.prog 65 #[.string t] W fun e w' => e = .returned (.bool false) ∧ W = w' := fun W => by rw [← hn]; exact name_any t W hts
      have C13 := Lib.hid c13
      clear hn c13
      cases hv : numL t.data.toList with
      | some v =>
        have c27 : ∀ W, Calls Tryz.prog 66 #[.string t] W fun e w' => e = .returned (.tuple #[.int .i64 v, .bool true]) ∧ W = w' := fun W => (number_any t W hts).mono fun e w' h => by unfold NumOf at h; rw [hv] at h; exact h
        have C27 := Lib.hid c27
        have HV := Lib.hid hv
        clear hv c27
        go_wp2_with (first
          | (go_at_call 65; refine (C13.out _).mono ?_; rintro e w' ⟨rfl, rfl⟩)
          | (go_at_call 66; refine (C27.out _).mono ?_; rintro e w' ⟨rfl, rfl⟩))
        refine bodyPost_ret (v := .tuple #[.agg #[.int .i64 2, .string t, .int .i64 v, .int .i64 k], .bool true]) (by simp [results, Tryz.results35, go_sem]) rfl ⟨?_, ?_⟩
        · rw [HW.out, word_num HN.out HV.out]; exact congrArg (fun x => Ending.returned (.tuple #[.agg #[.int .i64 2, .string x, .int .i64 v, .int .i64 k], .bool true])) (bytes_eq (t := t) rfl)
        · exact (Below.refl _ _).alloc (Nat.le_refl _) _
      | none =>
        have c27 : ∀ W, Calls Tryz.prog 66 #[.string t] W fun e w' => e = .returned (.tuple #[.int .i64 0, .bool false]) ∧ W = w' := fun W => (number_any t W hts).mono fun e w' h => by unfold NumOf at h; rw [hv] at h; exact h
        have C27 := Lib.hid c27
        have HV := Lib.hid hv
        clear hv c27
        go_wp2_with (first
          | (go_at_call 65; refine (C13.out _).mono ?_; rintro e w' ⟨rfl, rfl⟩)
          | (go_at_call 66; refine (C27.out _).mono ?_; rintro e w' ⟨rfl, rfl⟩))
        refine bodyPost_ret (v := .tuple #[.agg #[.int .i64 0, .string ⟨#[]⟩, .int .i64 0, .int .i64 0], .bool false]) (by simp [results, Tryz.results35, go_sem]) rfl ⟨?_, ?_⟩
        · rw [HW.out, word_none HN.out HV.out]; rfl
        · exact (Below.refl _ _).alloc (Nat.le_refl _) _
end Go.Proofs.YtigbceankmfaeaaGreatDoor.Lx
