/-
  Package log, plainly: sums, frames, and where none stands.
-/
import Derived.Test.YthbleofighjjgaaBas
import Derived.Laws.BitsAllLaws
namespace Go.Proofs.Ythbleofighjjgaa.LG
open Go.RowKit Go.Shelf Go.Proofs.Ythbleofighjjgaa.B

abbrev Bs := List UInt8
/-- A string's bytes. -/
abbrev by' (s : ByteArray) : Bs := s.data.toList
theorem by_append (a b : ByteArray) : by' (a ++ b) = by' a ++ by' b := by unfold by'; rw [ByteArray.data_append, Array.toList_append]
theorem by_len (s : ByteArray) : (by' s).length = s.size := by simp [by']
theorem by_inj {a b : ByteArray} (h : by' a = by' b) : a = b := ByteArray.ext (Array.toList_inj.1 h)
theorem by_mk (l : Bs) : by' ⟨l.toArray⟩ = l := rfl
theorem mk_by (s : ByteArray) : (⟨(by' s).toArray⟩ : ByteArray) = s := by_inj rfl
theorem by_cut (s : ByteArray) (i j : Nat) : by' (s.extract i j) = ((by' s).drop i).take (j - i) := Lib.extract_data s i j

/-! ### sums -/
def mov (n : Nat) : Nat := if n % 2 = 1 then (n / 2) ^^^ 3988292384 else n / 2
def movs : Nat → Nat → Nat
  | 0, n => n
  | k + 1, n => mov (movs k n)
def byN (n : Nat) (b : UInt8) : Nat := movs 8 (n ^^^ b.toNat)
def crcF (l : Bs) : Nat := l.foldl byN 4294967295
def crc (l : Bs) : Nat := 4294967295 - crcF l
theorem mov_lt {n : Nat} (h : n < 4294967296) : mov n < 4294967296 := by
  unfold mov
  split
  · exact Nat.xor_lt_two_pow (n := 32) (by omega) (by decide)
  · omega
theorem movs_lt {n : Nat} (h : n < 4294967296) : ∀ k, movs k n < 4294967296
  | 0 => h
  | k + 1 => mov_lt (movs_lt h k)
theorem xor8_lt {n : Nat} (h : n < 4294967296) (b : UInt8) : n ^^^ b.toNat < 4294967296 :=
  Nat.xor_lt_two_pow (n := 32) h (Nat.lt_of_lt_of_le b.toNat_lt (by decide))
theorem byN_lt {n : Nat} (h : n < 4294967296) (b : UInt8) : byN n b < 4294967296 := movs_lt (xor8_lt h b) 8
theorem fold_lt : ∀ (l : Bs) {n : Nat}, n < 4294967296 → l.foldl byN n < 4294967296
  | [], _, h => h
  | b :: r, _, h => fold_lt r (byN_lt h b)
theorem crcF_lt (l : Bs) : crcF l < 4294967296 := fold_lt l (by decide)
theorem crc_lt (l : Bs) : crc l < 4294967296 := by unfold crc; omega
theorem not32 (n : Nat) (h : n < 4294967296) : 4294967295 ^^^ n = 4294967295 - n := by
  have h1 : (BitVec.ofNat 32 4294967295) = BitVec.allOnes 32 := by decide
  have h2 := congrArg BitVec.toNat (BitVec.allOnes_xor (x := BitVec.ofNat 32 n))
  rw [← h1, BitVec.toNat_xor, BitVec.toNat_not, BitVec.toNat_ofNat, BitVec.toNat_ofNat, Nat.mod_eq_of_lt (by decide : 4294967295 < 2 ^ 32), Nat.mod_eq_of_lt h] at h2
  rw [h2]

/-! ### frames -/
def headL (r : Bs) : Bs := [1, UInt8.ofNat (r.length / 256), UInt8.ofNat r.length, UInt8.ofNat (crc r / 16777216), UInt8.ofNat (crc r / 65536), UInt8.ofNat (crc r / 256), UInt8.ofNat (crc r)]
def frL (r : Bs) : Bs := headL r ++ r ++ [1]
def Ok (r : Bs) : Prop := 1 ≤ r.length ∧ r.length ≤ 400
instance (r : Bs) : Decidable (Ok r) := inferInstanceAs (Decidable (_ ∧ _))
/-- No frame stands there. -/
def NoF (s : Bs) : Prop := ∀ r u, Ok r → s ≠ frL r ++ u
theorem fr_len (r : Bs) : (frL r).length = r.length + 8 := by simp [frL, headL]
theorem many_of {n : Nat} (h : n ≤ 400) : 256 * (UInt8.ofNat (n / 256)).toNat + (UInt8.ofNat n).toNat = n := by
  rw [UInt8.toNat_ofNat', UInt8.toNat_ofNat']; simp only [Nat.reducePow]; omega
theorem fr_cons (r u : Bs) : frL r ++ u = 1 :: UInt8.ofNat (r.length / 256) :: UInt8.ofNat r.length :: UInt8.ofNat (crc r / 16777216) :: UInt8.ofNat (crc r / 65536) :: UInt8.ofNat (crc r / 256) :: UInt8.ofNat (crc r) :: (r ++ 1 :: u) := by
  simp [frL, headL]
theorem fr_inj {r r' u u' : Bs} (h : Ok r) (h' : Ok r') (e : frL r ++ u = frL r' ++ u') : r = r' ∧ u = u' := by
  rw [fr_cons, fr_cons] at e
  simp only [List.cons.injEq, true_and] at e
  obtain ⟨e1, e2, _, _, _, _, e3⟩ := e
  have hl : r.length = r'.length := by rw [← many_of h.2, ← many_of h'.2, e1, e2]
  obtain ⟨rfl, e4⟩ := List.append_inj e3 hl
  exact ⟨rfl, (List.cons.inj e4).2⟩
theorem nof_short {s : Bs} (h : s.length < 9) : NoF s := by
  rintro r u hr rfl
  rw [List.length_append, fr_len] at h
  have := hr.1; omega
theorem nof_zero (n : Nat) : NoF (List.replicate n 0) := by
  rintro r u hr e
  rw [fr_cons] at e
  cases n with
  | zero => cases e
  | succ n => rw [List.replicate_succ] at e; exact absurd (List.cons.inj e).1 (by decide)
/-- What a frame tells of the bytes it begins. -/
theorem fr_tells {s r u : Bs} (hr : Ok r) (h : s = frL r ++ u) :
    r.length + 8 ≤ s.length ∧ 256 * (s[1]!).toNat + (s[2]!).toNat = r.length ∧ (s.drop 7).take r.length = r ∧ s[7 + r.length]! = 1 ∧ s.take 7 = headL r ∧ s.take (r.length + 8) = frL r := by
  refine ⟨by rw [h, List.length_append, fr_len]; omega, ?_, ?_, ?_, ?_, ?_⟩
  · rw [h, fr_cons]
    exact many_of hr.2
  · rw [h, fr_cons]; simp
  · rw [h, fr_cons, Nat.add_comm]
    show (r ++ 1 :: u)[r.length]! = 1
    rw [getElem!_pos _ _ (by simp), List.getElem_append_right (Nat.le_refl _)]
    simp
  · rw [h, fr_cons]; simp [headL]
  · rw [h, ← fr_len, List.take_left]
theorem fr_of {s r : Bs} {k : Nat} (hl : k + 8 ≤ s.length) (hr : (s.drop 7).take k = r) (h1 : s[7 + k]! = 1) (h7 : s.take 7 = headL r) : s = frL r ++ s.drop (k + 8) := by
  have e1 : s = s.take 7 ++ s.drop 7 := (List.take_append_drop 7 s).symm
  have e2 : s.drop 7 = r ++ (s.drop 7).drop k := by rw [← hr, List.take_append_drop]
  have e3 : (s.drop 7).drop k = 1 :: s.drop (k + 8) := by
    rw [List.drop_drop, List.drop_eq_getElem_cons (show 7 + k < s.length by omega), ← getElem!_pos s (7 + k) (by omega), h1, show 7 + k + 1 = k + 8 by omega]
  conv => lhs; rw [e1, h7, e2, e3]
  unfold frL
  simp

/-! ### the records of bytes -/
def cat (l : List Bs) : Bs := l.flatMap frL
theorem cat_len (l : List Bs) : (cat l).length = (l.map List.length).sum + 8 * l.length := by
  induction l with
  | nil => rfl
  | cons r l ih => 
    show (frL r ++ cat l).length = _
    rw [List.length_append, fr_len, ih, List.map_cons, List.sum_cons, List.length_cons]; omega
def ScanP (s : Bs) (l : List Bs) : Prop := (∀ r ∈ l, Ok r) ∧ ∃ t, s = cat l ++ t ∧ NoF t
theorem pref : ∀ (l m : List Bs) (x t : Bs), (∀ r ∈ l, Ok r) → (∀ r ∈ m, Ok r) → NoF t → cat l ++ x = cat m ++ t → ∃ m2, m = l ++ m2 ∧ x = cat m2 ++ t
  | [], m, x, t, _, _, _, e => ⟨m, rfl, e⟩
  | r :: l, [], x, t, hl, _, ht, e => absurd (show t = frL r ++ (cat l ++ x) by rw [← List.append_assoc]; exact e.symm) (ht r _ (hl r (by simp)))
  | r :: l, r' :: m, x, t, hl, hm, ht, e => by
    have e' : frL r ++ (cat l ++ x) = frL r' ++ (cat m ++ t) := by rw [← List.append_assoc, ← List.append_assoc]; exact e
    obtain ⟨rfl, e2⟩ := fr_inj (hl r (by simp)) (hm r' (by simp)) e'
    obtain ⟨m2, rfl, h2⟩ := pref l m x t (fun r h => hl r (by simp [h])) (fun r h => hm r (by simp [h])) ht e2
    exact ⟨m2, rfl, h2⟩
theorem scan_same {s : Bs} {l m : List Bs} (h : ScanP s l) (h' : ScanP s m) : l = m := by
  obtain ⟨hl, t, rfl, ht⟩ := h
  obtain ⟨hm, t', e, ht'⟩ := h'
  obtain ⟨m2, rfl, e2⟩ := pref l m t t' hl hm ht' e
  cases m2 with
  | nil => simp
  | cons r m2 => exact absurd (show t = frL r ++ (cat m2 ++ t') by rw [← List.append_assoc]; exact e2) (ht r _ (hm r (by simp)))
/-- A frame that is cut off is none. -/
theorem nof_torn {r : Bs} (hr : Ok r) {k z : Nat} (hk : k < (frL r).length) : NoF ((frL r).take k ++ List.replicate z 0) := by
  rintro r' u hr' e
  have hm := hr'.1
  have hlen := congrArg List.length e
  rw [List.length_append, List.length_append, fr_len, List.length_take, List.length_replicate] at hlen
  have ht := fr_tells hr' e
  have hk7 : 7 + r'.length < k := by
    refine Nat.lt_of_not_le fun hge => ?_
    have h1 := ht.2.2.2.1
    rw [getElem!_pos _ _ (by rw [List.length_append, List.length_take, List.length_replicate]; omega), List.getElem_append_right (by rw [List.length_take]; omega), List.getElem_replicate] at h1
    exact absurd h1 (by decide)
  have hb : ∀ i, i < 3 → ((frL r).take k ++ List.replicate z 0)[i]! = (frL r)[i]! := by
    intro i hi
    rw [getElem!_pos _ i (by rw [List.length_append, List.length_take]; omega), List.getElem_append_left (by rw [List.length_take]; omega), List.getElem_take, getElem!_pos (frL r) i (by omega)]
  have h2 := ht.2.1
  rw [hb 1 (by omega), hb 2 (by omega)] at h2
  have h3 := (fr_tells (u := []) hr (List.append_nil _).symm).2.1
  rw [fr_len] at hk
  omega
end Go.Proofs.Ythbleofighjjgaa.LG
