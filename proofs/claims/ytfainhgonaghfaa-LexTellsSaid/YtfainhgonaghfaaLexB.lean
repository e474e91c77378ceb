/-
  Contracts of strings.HasPrefix at a semicolon, and of lex.take.
-/
import Derived.Test.YtfainhgonaghfaaLexA
import Derived.Lib.IndexBytes
namespace Go.Proofs.Ytfainhgonaghfaa
open Go.RowKit

def semiB : List UInt8 → Bool
  | [] => false
  | c :: _ => decide (c.toNat = 59)
theorem u8_eq {c : UInt8} {n : Nat} (h : n < 256) : c = UInt8.ofNat n ↔ c.toNat = n := by
  constructor
  · rintro rfl; simp; omega
  · intro e; apply UInt8.toNat_inj.1; simp; omega
theorem semi_full {s : ByteArray} (h0 : 0 < s.size) : ((s.extract 0 1).toList == [59]) = semiB s.data.toList := by
  rw [Lib.toList_data, bytes_pre, bytes_cons h0]
  simp only [List.take_succ_cons, List.take_zero, semiB]
  rw [Bool.eq_iff_iff]
  have := u8_eq (c := s[0]) (n := 59) (by omega)
  simp at this ⊢
  exact this
set_option maxHeartbeats 400000 in
theorem semi_any (s : ByteArray) (w : World) : Calls Try.prog 26 #[.string s, .string ⟨#[59]⟩] w fun e w' => e = .returned (.bool (semiB s.data.toList)) ∧ w = w' := by
  by_cases h0 : 0 < s.size
  · go_enter Try.func26, Try.ntmps26
    go_wp2
    go_ret
    exact ⟨ret_bool (semi_full h0), rfl⟩
  · have HN : Hid (semiB s.data.toList = false) := by rw [← Lib.toList_data, (empty_facts h0).1]; exact rfl
    go_enter Try.func26, Try.ntmps26
    go_wp2
    go_ret
    exact ⟨ret_bool HN.out.symm, rfl⟩

/-- A token as a value, and as the cells that it takes. -/
def tokA (t : Tok) : Array Value := #[.int .i64 t.kind, .string ⟨t.text.toArray⟩, .int .i64 t.val, .int .i64 t.loc]
def takeV : Option Tok → Value
  | some t => .tuple #[.agg (tokA t), .bool true]
  | none => .tuple #[.agg #[.int .i64 0, .string ⟨#[]⟩, .int .i64 0, .int .i64 0], .bool false]
def TakeOf (r : List UInt8) (k : Nat) (w : World) (e : Ending) (w' : World) : Prop := e = .returned (takeV (takeL r k)) ∧ Below w.heap.size w w'
theorem bytes_eq {t : ByteArray} {l : List UInt8} (h : t.data.toList = l) : t = ⟨l.toArray⟩ := by subst h; simp
theorem take_semi {s : ByteArray} {k : Nat} (hk : k < s.size) (h : semiB (s.data.toList.drop k) = true) : takeL (s.data.toList.drop k) k = some ⟨3, [59], 0, k⟩ := by
  rw [List.drop_eq_getElem_cons (by simpa using hk)] at h ⊢
  simp only [semiB, decide_eq_true_eq] at h
  simp only [takeL, h, if_true]
  rw [(u8_eq (n := 59) (by omega)).2 h]; rfl
theorem take_word {s t : ByteArray} {k : Nat} (hk : k < s.size) (h : semiB (s.data.toList.drop k) = false) (ht : t.data.toList = runL (s.data.toList.drop k)) : takeL (s.data.toList.drop k) k = wordL t.data.toList k := by
  rw [ht]
  rw [List.drop_eq_getElem_cons (by simpa using hk)] at h ⊢
  simp only [semiB, decide_eq_false_iff_not] at h
  rw [takeL, if_neg h]
theorem word_name {l : List UInt8} {k : Nat} (h : nameL l = true) : wordL l k = some ⟨1, l, 0, k⟩ := by simp [wordL, h]
theorem word_num {l : List UInt8} {k v : Nat} (h : nameL l = false) (hv : numL l = some v) : wordL l k = some ⟨2, l, v, k⟩ := by simp [wordL, h, hv]
theorem word_none {l : List UInt8} {k : Nat} (h : nameL l = false) (hv : numL l = none) : wordL l k = none := by simp [wordL, h, hv]

set_option maxHeartbeats 1000000 in
theorem take_any (s : ByteArray) (k : Nat) (w : World) (hk : k < s.size) (hs : s.size ≤ 140737488351232) : Calls Try.prog 18 #[.string s, .int .i64 k] w (TakeOf (s.data.toList.drop k) k w) := by
  have he : (s.extract k s.size).data.toList = s.data.toList.drop k := Lib.extract_to_end s k
  have hz : (s.extract k s.size).size ≤ 140737488355328 := by simp; omega
  have c26 : ∀ W, Calls Try.prog 26 #[.string (s.extract k s.size), .string ⟨#[59]⟩] W fun e w' => e = .returned (.bool (semiB (s.data.toList.drop k))) ∧ W = w' := by
    intro W; rw [← he]; exact semi_any _ W
  have c21 : ∀ W, Calls Try.prog 21 #[.string (s.extract k s.size)] W fun e w' => ∃ t : ByteArray, (e = .returned (.string t) ∧ W = w') ∧ t.data.toList = runL (s.data.toList.drop k) := by
    intro W; rw [← he]; exact (run_any _ W hz).mono fun e w' ⟨t, h1, h2, h3⟩ => ⟨t, ⟨h1, h3⟩, h2⟩
  have C26 := Lib.hid c26
  have C21 := Lib.hid c21
  clear c26 c21 he hz
  cases hsm : semiB (s.data.toList.drop k) with
  | true =>
    have HT := Lib.hid (take_semi hk hsm)
    rw [hsm] at C26
    clear hsm
    go_enter Try.func18, Try.ntmps18
    go_wp2_with (first
      | (go_at_call 26; refine (C26.out _).mono ?_; rintro e w' ⟨rfl, rfl⟩))
    refine bodyPost_ret (v := .tuple #[.agg #[.int .i64 3, .string ⟨#[59]⟩, .int .i64 0, .int .i64 k], .bool true]) (by simp [results, Try.results18, go_sem]) rfl ⟨by rw [HT.out]; rfl, ?_⟩
    exact (Below.refl _ _).alloc (Nat.le_refl _) _
  | false =>
    have HT : Hid (∀ t : ByteArray, t.data.toList = runL (s.data.toList.drop k) → takeL (s.data.toList.drop k) k = wordL t.data.toList k ∧ t.size ≤ 140737488355328) := by
      intro t ht
      refine ⟨take_word hk hsm ht, ?_⟩
      have := runL_le (s.data.toList.drop k)
      rw [← ht, List.length_drop, bytes_len, bytes_len] at this
      omega
    rw [hsm] at C26
    clear hsm
    go_enter Try.func18, Try.ntmps18
    go_wp2_with (first
      | (go_at_call 26; refine (C26.out _).mono ?_; rintro e w' ⟨rfl, rfl⟩)
      | (go_at_call 21; refine (C21.out _).mono ?_; rintro e w' ⟨t, ⟨rfl, rfl⟩, ht⟩; obtain ⟨HW, hts⟩ : Hid (takeL (s.data.toList.drop k) k = wordL t.data.toList k) ∧ t.size ≤ 140737488355328 := HT.out t ht; clear ht HT)
      | fail)
    cases hn : nameL t.data.toList with
    | true =>
      have HN := Lib.hid hn
      have c13 : ∀ W, Calls Try.prog 13 #[.string t] W fun e w' => e = .returned (.bool true) ∧ W = w' := fun W => by rw [← hn]; exact name_any t W hts
      have C13 := Lib.hid c13
      clear hn c13
      go_wp2_with (first
        | (go_at_call 13; refine (C13.out _).mono ?_; rintro e w' ⟨rfl, rfl⟩))
      refine bodyPost_ret (v := .tuple #[.agg #[.int .i64 1, .string t, .int .i64 0, .int .i64 k], .bool true]) (by simp [results, Try.results18, go_sem]) rfl ⟨?_, ?_⟩
      · rw [HW.out, word_name HN.out]; exact congrArg (fun x => Ending.returned (.tuple #[.agg #[.int .i64 1, .string x, .int .i64 0, .int .i64 k], .bool true])) (bytes_eq (t := t) rfl)
      · exact (Below.refl _ _).alloc (Nat.le_refl _) _
    | false =>
      have HN := Lib.hid hn
      have c13 : ∀ W, Calls Try.prog 13 #[.string t] W fun e w' => e = .returned (.bool false) ∧ W = w' := fun W => by rw [← hn]; exact name_any t W hts
      have C13 := Lib.hid c13
      clear hn c13
      cases hv : numL t.data.toList with
      | some v =>
        have c27 : ∀ W, Calls Try.prog 27 #[.string t] W fun e w' => e = .returned (.tuple #[.int .i64 v, .bool true]) ∧ W = w' := fun W => (number_any t W hts).mono fun e w' h => by unfold NumOf at h; rw [hv] at h; exact h
        have C27 := Lib.hid c27
        have HV := Lib.hid hv
        clear hv c27
        go_wp2_with (first
          | (go_at_call 13; refine (C13.out _).mono ?_; rintro e w' ⟨rfl, rfl⟩)
          | (go_at_call 27; refine (C27.out _).mono ?_; rintro e w' ⟨rfl, rfl⟩))
        refine bodyPost_ret (v := .tuple #[.agg #[.int .i64 2, .string t, .int .i64 v, .int .i64 k], .bool true]) (by simp [results, Try.results18, go_sem]) rfl ⟨?_, ?_⟩
        · rw [HW.out, word_num HN.out HV.out]; exact congrArg (fun x => Ending.returned (.tuple #[.agg #[.int .i64 2, .string x, .int .i64 v, .int .i64 k], .bool true])) (bytes_eq (t := t) rfl)
        · exact (Below.refl _ _).alloc (Nat.le_refl _) _
      | none =>
        have c27 : ∀ W, Calls Try.prog 27 #[.string t] W fun e w' => e = .returned (.tuple #[.int .i64 0, .bool false]) ∧ W = w' := fun W => (number_any t W hts).mono fun e w' h => by unfold NumOf at h; rw [hv] at h; exact h
        have C27 := Lib.hid c27
        have HV := Lib.hid hv
        clear hv c27
        go_wp2_with (first
          | (go_at_call 13; refine (C13.out _).mono ?_; rintro e w' ⟨rfl, rfl⟩)
          | (go_at_call 27; refine (C27.out _).mono ?_; rintro e w' ⟨rfl, rfl⟩))
        refine bodyPost_ret (v := .tuple #[.agg #[.int .i64 0, .string ⟨#[]⟩, .int .i64 0, .int .i64 0], .bool false]) (by simp [results, Try.results18, go_sem]) rfl ⟨?_, ?_⟩
        · rw [HW.out, word_none HN.out HV.out]; rfl
        · exact (Below.refl _ _).alloc (Nat.le_refl _) _
end Go.Proofs.Ytfainhgonaghfaa
