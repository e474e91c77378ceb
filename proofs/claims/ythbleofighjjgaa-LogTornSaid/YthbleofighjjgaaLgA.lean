/-
  log.Sum: the closures that add a byte and tell the sum; the document's Sum.
-/
import Derived.Test.YthbleofighjjgaaLgM
import Derived.Test.YthbleofighjjgaaProg
import Derived.Laws.Shifts
namespace Go.Proofs.Ythbleofighjjgaa.LG
open Go.RowKit Go.Shelf Go.Proofs.Ythbleofighjjgaa.B
attribute [local go_sem] Oper.semAt_some

abbrev pt (b : Nat) : Value := .pointer (some ⟨b, 0, none⟩)
theorem and_one (n : Nat) (h : n < 4294967296) : bits .and .u32 (n : Int) 1 = ((n % 2 : Nat) : Int) := by
  have := u32_and_nat n 1 h (by decide)
  rw [Nat.and_one_is_mod] at this; exact this
theorem xor_msk (n : Nat) (h : n < 4294967296) : bits .xor .u32 (n : Int) 3988292384 = ((n ^^^ 3988292384 : Nat) : Int) := u32_xor_nat n 3988292384 h (by decide)
theorem half_u32 (n : Nat) : (n : Int) / 2 = ((n / 2 : Nat) : Int) := by omega
set_option maxRecDepth 100000 in
set_option maxHeartbeats 1000000 in
theorem moved_any (w : World) (n : Nat) (h : n < 4294967296) : Calls Try.prog 23 #[.int .u32 n] w fun e w' => e = .returned (.int .u32 (mov n)) ∧ w' = w := by
  have e1 := and_one n h
  obtain ⟨M, hM⟩ : ∃ M, M = n / 2 := ⟨_, rfl⟩
  have e2 : (n : Int) / 2 = (M : Int) := by omega
  have e3 := xor_msk M (by omega)
  by_cases hm : n % 2 = 1
  · have e : mov n = M ^^^ 3988292384 := by rw [hM]; exact if_pos hm
    rw [hm] at e1
    have HE := Lib.hid e
    obtain ⟨X, hX⟩ : ∃ X, X = M ^^^ 3988292384 := ⟨_, rfl⟩
    rw [← hX] at e3 HE
    clear hM hm e hX
    rw [HE.out]
    clear HE
    go_enter Try.func23, Try.ntmps23
    go_wp2_with fail
    go_ret
    exact ⟨rfl, rfl⟩
  · have HE : Hid (mov n = M) := Lib.hid (by rw [hM]; exact if_neg hm)
    have hm0 : n % 2 = 0 := by omega
    rw [hm0] at e1
    clear hM hm hm0 e3
    rw [HE.out]
    clear HE
    go_enter Try.func23, Try.ntmps23
    go_wp2_with fail
    go_ret
    exact ⟨rfl, rfl⟩
/-- A sum that is gone on with. -/
def SmI (g n : Nat) (w : World) : Prop := w.heap[g]? = some (.cells #[.int .u32 n] 29 (0, 0))
set_option maxRecDepth 100000 in
set_option maxHeartbeats 1000000 in
theorem add_any (B : Nat) (w : World) (g n : Nat) (b : UInt8) (hn : n < 4294967296) (hB : B ≤ g) (h : SmI g n w) :
    Calls Try.prog 22 #[.int .u8 b.toNat, pt g] w fun e w' => (∃ v, e = .returned v) ∧ SmI g (byN n b) w' ∧ Below B w w' := by
  have hl : g < w.heap.size := blk_lt h
  have c0 : w.cell? ⟨g, 0, none⟩ = some (.int .u32 n) := cell_blk (i := 0) h rfl
  have f0 : w.frozen? ⟨g, 0, none⟩ = false := frozen_blk h
  have hb8 : (b.toNat : Int) < 256 := by have := b.toNat_lt; omega
  have e1 : bits .xor .u32 (n : Int) (b.toNat : Int) = ((n ^^^ b.toNat : Nat) : Int) := u32_xor_nat n b.toNat hn (Nat.lt_of_lt_of_le b.toNat_lt (by decide))
  obtain ⟨m, hm⟩ : ∃ m, m = n ^^^ b.toNat := ⟨_, rfl⟩
  rw [← hm] at e1
  have hmB : byN n b = movs 8 m := by rw [hm]; rfl
  have HM : Hid (m < 4294967296) := Lib.hid (by rw [hm]; exact xor8_lt hn b)
  rw [hmB]
  have HH := Lib.hid h
  clear h hm hmB
  go_enter Try.func22, Try.ntmps22
  go_wp2_with fail
  clear e1 c0 f0
  have HS : Hid (SmI g m (w.setCell ⟨g, 0, none⟩ (.int .u32 m))) := Lib.hid (blk_set (i := 0) HH.out)
  have HBL : Hid (Below B w (w.setCell ⟨g, 0, none⟩ (.int .u32 m))) := Lib.hid ((Below.refl _ _).setCell (p := ⟨g, 0, none⟩) hB _)
  go_loopw [7] (fun i wr => ∃ k : Nat, k ≤ 8 ∧ i = .int .i64 (k : Int) ∧ Hid (SmI g (movs k m) wr) ∧ Hid (Below B w wr)) (fun i _ => 8 - (intOf i).toNat)
  case atStart => exact ⟨0, by omega, rfl, HS, HBL⟩
  case round =>
    obtain ⟨k, hk, rfl, H1, H2⟩ := hrel
    by_cases hlt : k < 8
    · have c1 : wr.cell? ⟨g, 0, none⟩ = some (.int .u32 (movs k m : Nat)) := cell_blk (i := 0) H1.out rfl
      have f1 : wr.frozen? ⟨g, 0, none⟩ = false := frozen_blk H1.out
      have hl1 : g < wr.heap.size := blk_lt H1.out
      have CM := Lib.hid (moved_any wr (movs k m) (movs_lt HM.out k))
      go_wp2_with fail
      refine CM.out.mono ?_
      rintro e w1 ⟨rfl, rfl⟩
      go_wp2_with fail
      go_roundw
      case rel => exact ⟨k + 1, by omega, by go_num, Lib.hid (blk_set (i := 0) H1.out), Lib.hid (H2.out.setCell (p := ⟨g, 0, none⟩) hB _)⟩
      case measure => simp [intOf]; omega
    · obtain rfl : k = 8 := by omega
      go_wp2_with fail
      go_end0
      exact ⟨⟨_, rfl⟩, H1.out, H2.out⟩
set_option maxRecDepth 100000 in
set_option maxHeartbeats 1000000 in
theorem told_any (w : World) (g n : Nat) (hn : n < 4294967296) (h : SmI g n w) :
    Calls Try.prog 24 #[pt g] w fun e w' => e = .returned (.int .u32 ((4294967295 - n : Nat) : Int)) ∧ w' = w := by
  have hl : g < w.heap.size := blk_lt h
  have c0 : w.cell? ⟨g, 0, none⟩ = some (.int .u32 n) := cell_blk (i := 0) h rfl
  have e1 : bits .xor .u32 IntKind.u32.max (n : Int) = ((4294967295 - n : Nat) : Int) := by
    rw [← not32 n hn]; exact u32_xor_nat 4294967295 n (by decide) hn
  clear h
  go_enter Try.func24, Try.ntmps24
  go_wp2_with fail
  go_ret
  exact ⟨rfl, rfl⟩
set_option maxRecDepth 100000 in
set_option maxHeartbeats 1000000 in
theorem newsum_any (w : World) : Calls Try.prog 19 #[] w fun e w' =>
    e = .returned (.tuple #[.func (.func 22) #[] #[pt w.heap.size], .func (.func 24) #[] #[pt w.heap.size]]) ∧ SmI w.heap.size 4294967295 w' ∧ Below w.heap.size w w' := by
  go_enter Try.func19, Try.ntmps19
  go_wp2_with fail
  go_ret2
  exact ⟨rfl, heap_new _ _, (Below.refl _ _).alloc (Nat.le_refl _) _⟩
theorem by_get {s : ByteArray} {k : Nat} (hk : k < s.size) : s[k] = (by' s)[k]! := by
  rw [getElem!_pos _ k (by rw [by_len]; exact hk)]; rfl
set_option maxRecDepth 100000 in
set_option maxHeartbeats 1000000 in
theorem sum_any (w : World) (s : ByteArray) (hs : s.size ≤ 1000000) : Calls Try.prog 12 #[.string s] w fun e w' => e = .returned (.int .u32 (crc (by' s) : Nat)) ∧ Below w.heap.size w w' := by
  have CN := Lib.hid (newsum_any w)
  have en1 := enters_of Try.func22 (by kernel_rfl) rfl
  have en2 := enters_of Try.func24 (by kernel_rfl) rfl
  obtain ⟨g, hg⟩ : ∃ g, g = w.heap.size := ⟨_, rfl⟩
  have HG := Lib.hid hg
  rw [← hg] at CN ⊢
  clear hg
  go_enter Try.func12, Try.ntmps12
  go_wp2_with fail
  refine CN.out.mono ?_
  rintro e w1 ⟨rfl, h1, h2⟩
  have H1 := Lib.hid h1
  have H2 := Lib.hid h2
  clear h1 h2 CN
  go_wp2_with fail
  go_loopw [12] (fun i wr => ∃ k : Nat, k ≤ s.size ∧ i = .int .i64 (k : Int) ∧ Hid (SmI g (((by' s).take k).foldl byN 4294967295) wr) ∧ Hid (Below g w wr)) (fun i _ => s.size - (intOf i).toNat)
  case atStart => exact ⟨0, Nat.zero_le _, rfl, H1, H2⟩
  case round =>
    obtain ⟨k, hk, rfl, H3, H4⟩ := hrel
    by_cases hlt : k < s.size
    · have CA := Lib.hid (add_any g wr g _ s[k] (fold_lt ((by' s).take k) (by decide : 4294967295 < 4294967296)) (Nat.le_refl _) H3.out)
      have HN : Hid (byN (((by' s).take k).foldl byN 4294967295) s[k] = ((by' s).take (k + 1)).foldl byN 4294967295) := Lib.hid (by rw [fold_next (by rw [by_len]; exact hlt), by_get hlt])
      rw [HN.out] at CA
      go_wp2_with fail
      refine CA.out.mono ?_
      rintro e w2 ⟨⟨v, rfl⟩, h5, h6⟩
      have H5 := Lib.hid h5
      have H6 := Lib.hid (H4.out.trans h6)
      clear h5 h6 CA HN
      go_wp2_with fail
      go_roundw
      case rel => exact ⟨k + 1, hlt, by go_num, H5, H6⟩
      case measure => simp [intOf]; omega
    · obtain rfl : k = s.size := by omega
      have CT := Lib.hid (told_any wr g (crcF (by' s)) (crcF_lt _) (by have := H3.out; rw [← by_len, List.take_length] at this; exact this))
      go_wp2_with fail
      refine CT.out.mono ?_
      rintro e w2 ⟨rfl, rfl⟩
      go_wp2_with fail
      go_ret
      exact ⟨rfl, H4.out⟩
end Go.Proofs.Ythbleofighjjgaa.LG
