/-
  The document's own Sum, Frame, Scan, Same.
-/
import Derived.Test.YthbleofighjjgaaLgC
namespace Go.Proofs.Ythbleofighjjgaa.LG
open Go.RowKit Go.Shelf Go.Proofs.Ythbleofighjjgaa.B
attribute [local go_sem] Oper.semAt_some

set_option maxHeartbeats 4000000 in
set_option maxRecDepth 100000 in
theorem rsum_any (w : World) (s : ByteArray) (hs : s.size ≤ 1000000) : Calls Try.prog 13 #[.string s] w fun e w' => e = .returned (.int .u32 (crc (by' s) : Nat)) ∧ w' = w := by
  go_enter Try.func13, Try.ntmps13
  go_wp2_with fail
  go_loopw [3, 4] (fun v i wr => ∃ k : Nat, k ≤ s.size ∧ i = .int .i64 (k : Int) ∧ wr = w ∧ v = .int .u32 ((((by' s).take k).foldl byN 4294967295 : Nat) : Int)) (fun _ i _ => s.size - (intOf i).toNat)
  case atStart => exact ⟨0, Nat.zero_le _, rfl, rfl, rfl⟩
  case round =>
    obtain ⟨k, hk, rfl, rfl, rfl⟩ := hrel
    by_cases hlt : k < s.size
    · have HN : Hid (byN (((by' s).take k).foldl byN 4294967295) s[k] = ((by' s).take (k + 1)).foldl byN 4294967295) := Lib.hid (by rw [fold_next (by rw [by_len]; exact hlt), by_get hlt])
      have hv := fold_lt ((by' s).take k) (by decide : 4294967295 < 4294967296)
      obtain ⟨n, hn⟩ : ∃ n, n = ((by' s).take k).foldl byN 4294967295 := ⟨_, rfl⟩
      rw [← hn] at HN hv ⊢
      clear hn
      have hb8 : ((s[k]).toNat : Int) < 256 := by have := (s[k]).toNat_lt; omega
      have e1 : bits .xor .u32 (n : Int) ((s[k]).toNat : Int) = ((n ^^^ (s[k]).toNat : Nat) : Int) := u32_xor_nat n (s[k]).toNat hv (Nat.lt_of_lt_of_le (s[k]).toNat_lt (by decide))
      obtain ⟨m, hm⟩ : ∃ m, m = n ^^^ (s[k]).toNat := ⟨_, rfl⟩
      have HM : Hid (m < 4294967296) := Lib.hid (by rw [hm]; exact xor8_lt hv _)
      have HB : Hid (byN n s[k] = movs 8 m) := Lib.hid (by rw [hm]; rfl)
      rw [← hm] at e1
      clear hm hv
      go_wp2_with fail
      go_loopw [3, 5] (fun v i wx => ∃ j : Nat, j ≤ 8 ∧ i = .int .i64 (j : Int) ∧ wx = wr ∧ v = .int .u32 ((movs j m : Nat) : Int)) (fun _ i _ => 8 - (intOf i).toNat)
      case atStart => exact ⟨0, by omega, rfl, rfl, rfl⟩
      case round =>
        obtain ⟨j, hj, rfl, rfl, rfl⟩ := hrel
        by_cases hlt2 : j < 8
        · have hp := movs_lt HM.out j
          have HQ : Hid (mov (movs j m) = movs (j + 1) m) := Lib.hid rfl
          obtain ⟨p, hp'⟩ : ∃ p, p = movs j m := ⟨_, rfl⟩
          rw [← hp'] at hp HQ ⊢
          clear hp' e1
          obtain ⟨M, hM⟩ : ∃ M, M = p / 2 := ⟨_, rfl⟩
          have e2 : (p : Int) / 2 = (M : Int) := by omega
          have e3 := xor_msk M (by omega)
          by_cases hm : p % 2 = 1
          · have e4 : (p : Int) % 2 = 1 := by omega
            have HE : Hid (mov p = M ^^^ 3988292384) := Lib.hid (by rw [hM]; exact if_pos hm)
            obtain ⟨X, hX⟩ : ∃ X, X = M ^^^ 3988292384 := ⟨_, rfl⟩
            rw [← hX] at e3 HE
            clear hM hm hX
            go_wp2_with fail
            go_roundw
            case rel => exact ⟨j + 1, by omega, by go_num, trivial, by rw [← HQ.out, HE.out]⟩
            case measure => simp [intOf]; omega
          · have e4 : (p : Int) % 2 = 0 := by omega
            have HE : Hid (mov p = M) := Lib.hid (by rw [hM]; exact if_neg hm)
            clear hM hm e3
            go_wp2_with fail
            go_roundw
            case rel => exact ⟨j + 1, by omega, by go_num, trivial, by rw [← HQ.out, HE.out]⟩
            case measure => simp [intOf]; omega
        · obtain rfl : j = 8 := by omega
          go_wp2_with fail
          go_roundw
          case rel => exact ⟨k + 1, hlt, by go_num, trivial, by rw [← HN.out, HB.out]⟩
          case measure => simp [intOf]; omega
    · obtain rfl : k = s.size := by omega
      have hv := crcF_lt (by' s)
      have e : (by' s).take s.size = by' s := by rw [← by_len, List.take_length]
      rw [e]
      have e0 : (by' s).foldl byN 4294967295 = crcF (by' s) := rfl
      rw [e0]
      obtain ⟨n, hn⟩ : ∃ n, n = crcF (by' s) := ⟨_, rfl⟩
      have HC : Hid (crc (by' s) = 4294967295 - n) := Lib.hid (by rw [hn]; rfl)
      rw [← hn] at hv ⊢
      clear hn e0 e
      have e1 : IntKind.u32.wrap (4294967295 - (n : Int)) = ((4294967295 - n : Nat) : Int) := by
        rw [IntKind.wrap_u32']; omega
      go_wp2_with fail
      go_ret
      exact ⟨by rw [HC.out]; rfl, rfl⟩
set_option maxHeartbeats 4000000 in
set_option maxRecDepth 100000 in
theorem rframe_any (w : World) (s : ByteArray) (hs : s.size ≤ 1000000) : Calls Try.prog 9 #[.string s] w fun e w' => e = .returned (.tuple #[.string (frE s).1, .int .i64 (frE s).2]) ∧ Below w.heap.size w w' := by
  by_cases hok : 1 ≤ s.size ∧ s.size ≤ 400
  · have HE : Hid (frE s = (frA s, 0)) := Lib.hid (if_pos hok)
    have CS := fun W => Lib.hid (rsum_any W s hs)
    obtain ⟨K, hK⟩ : ∃ K : Nat, K = crc (by' s) := ⟨_, rfl⟩
    have HK : Hid (headL (by' s) = [1, UInt8.ofNat (s.size / 256), UInt8.ofNat s.size, UInt8.ofNat (K / 16777216), UInt8.ofNat (K / 65536), UInt8.ofNat (K / 256), UInt8.ofNat K]) := Lib.hid (by rw [hK]; unfold headL; rw [by_len])
    have hk : K < 4294967296 := by rw [hK]; exact crc_lt _
    have HFS := Lib.hid (fr_sum s)
    have hz1 := hd_size s
    rw [← hK] at CS
    have d1 : decide ((s.size : Int) < 1) = false := decide_eq_false (by omega)
    have d2 : decide ((400 : Int) < (s.size : Int)) = false := decide_eq_false (by omega)
    have hlt := hok.2
    have hgt := hok.1
    clear hK hok
    go_enter Try.func9, Try.ntmps9
    go_wp2_with fail
    refine (CS _).out.mono ?_
    rintro e w1 ⟨rfl, rfl⟩
    go_wp2_with fail
    rw [run_conv 34 9 5 Try.underlying34 Try.underlying5 Try.underlying9 w1.heap.size 7 7 (heap_new _ _) (headL (by' s)) rfl ?hc]
    case hc =>
      rw [HK.out]
      simp only [Lib.byteCells, List.map_cons, List.map_nil, UInt8.toNat_ofNat', Nat.reducePow]
      simp only [List.cons.injEq, Value.int.injEq, true_and, and_true]
      refine ⟨rfl, ?_, ?_, ?_, ?_, ?_, ?_⟩ <;> omega
    have e0 : (⟨(headL (by' s)).toArray⟩ : ByteArray) = hdA s := rfl
    rw [e0]
    clear e0
    have o1 : ¬ (9223372036854775807 < 7 + s.size) := by omega
    have o2 : ¬ (9223372036854775807 < 7 + s.size + 1) := by omega
    go_wp2_with fail
    go_ret2
    rw [HE.out]
    exact ⟨by rw [← HFS.out]; rfl, (Below.refl _ _).alloc (Nat.le_refl _) _⟩
  · have HE : Hid (frE s = (⟨#[]⟩, 3)) := Lib.hid (if_neg hok)
    by_cases h1 : 1 ≤ s.size
    · have d1 : decide ((s.size : Int) < 1) = false := decide_eq_false (by omega)
      have d2 : decide ((400 : Int) < (s.size : Int)) = true := decide_eq_true (by omega)
      clear hok h1
      go_enter Try.func9, Try.ntmps9
      go_wp2_with fail
      go_ret2
      rw [HE.out]
      exact ⟨rfl, Below.refl _ _⟩
    · have d1 : decide ((s.size : Int) < 1) = true := decide_eq_true (by omega)
      clear hok
      go_enter Try.func9, Try.ntmps9
      go_wp2_with fail
      go_ret2
      rw [HE.out]
      exact ⟨rfl, Below.refl _ _⟩
theorem row_shut {w : World} {B n : Nat} {v : Value} {l : List ByteArray} (h : w.ownsRow B 9 1 v n (l.map Value.string)) : ∃ A c, v = .slice A n c ∧ Row w A (l.flatMap stC) := by
  obtain ⟨A, c, rfl⟩ := own_slice h
  exact ⟨A, c, rfl, by rw [← map_st]; exact Row.of_own h⟩
theorem all_at {a b : List ByteArray} {k : Nat} (h : ∀ j, j < k → a[j]! = b[j]!) (hk : a[k]! = b[k]!) : ∀ j, j < k + 1 → a[j]! = b[j]! := by
  intro j hj
  by_cases e : j = k
  · rw [e]; exact hk
  · exact h j (by omega)
theorem eq_at {a b : List ByteArray} (hl : a.length = b.length) (h : ∀ j, j < a.length → a[j]! = b[j]!) : a = b := by
  apply List.ext_getElem hl
  intro i h1 h2
  have := h i h1
  rw [getElem!_pos a i h1, getElem!_pos b i h2] at this
  exact this
set_option maxHeartbeats 4000000 in
set_option maxRecDepth 100000 in
theorem same_any (w : World) (A B : Option Addr) (ca cb : Nat) (a b : List ByteArray) (ha : Row w A (a.flatMap stC)) (hb : Row w B (b.flatMap stC)) (hla : a.length ≤ 1000000) :
    Calls Try.prog 14 #[.slice A a.length ca, .slice B b.length cb] w fun e w' => e = .returned (.bool (decide (a = b))) ∧ Below w.heap.size w w' := by
  by_cases hl : a.length = b.length
  · have HA := Lib.hid ha
    have HB := Lib.hid hb
    have HL := Lib.hid hl
    have d1 : ((a.length : Int) != (b.length : Int)) = false := by rw [hl]; exact bne_self_eq_false _
    clear ha hb hl
    go_enter Try.func14, Try.ntmps14
    go_wp2_with fail
    clear d1
    go_loopw [5] (fun i wr => ∃ k : Nat, k ≤ a.length ∧ i = .int .i64 (k : Int) ∧ Hid (∀ j, j < k → a[j]! = b[j]!) ∧ Hid (Below w.heap.size w wr)) (fun i _ => a.length - (intOf i).toNat)
    case atStart => exact ⟨0, Nat.zero_le _, rfl, Lib.hid (fun j hj => absurd hj (Nat.not_lt_zero _)), Lib.hid (Below.refl _ _)⟩
    case round =>
      obtain ⟨k, hk, rfl, HK, HBL⟩ := hrel
      by_cases hlt : k < a.length
      · obtain ⟨ba, oa, rfl, hba, hca⟩ := row_at HA.out hlt
        obtain ⟨bb, ob, rfl, hbb, hcb⟩ := row_at HB.out (show k < b.length by rw [← HL.out]; exact hlt)
        have c1 := (HBL.out.cell (p := ⟨ba, oa + k, none⟩) hba).trans hca
        have c2 := (HBL.out.cell (p := ⟨bb, ob + k, none⟩) hbb).trans hcb
        have hk0 : (0 : Int) ≤ (k : Int) := Int.natCast_nonneg _
        have hk1 : (k : Int) < (a.length : Int) := by omega
        have hk2 : (k : Int) < (b.length : Int) := by have := HL.out; omega
        clear hca hcb
        by_cases he : a[k]! = b[k]!
        · have HE := Lib.hid (all_at HK.out he)
          obtain ⟨x, hx⟩ : ∃ x, x = b[k]! := ⟨_, rfl⟩
          rw [he] at c1
          rw [← hx] at c1 c2
          clear he hx
          go_wp2_with fail
          go_quiet (fail)
          go_wp2_with fail
          go_roundw
          case rel => exact ⟨k + 1, hlt, by go_num, HE, Lib.hid (HBL.out.trans (below_draws (Below.refl _ _) _))⟩
          case measure => simp [intOf]; omega
        · have HD : Hid (decide (a = b) = false) := Lib.hid (decide_eq_false (fun h => he (by rw [h])))
          obtain ⟨x, hx⟩ : ∃ x, x = a[k]! := ⟨_, rfl⟩
          obtain ⟨y, hy⟩ : ∃ y, y = b[k]! := ⟨_, rfl⟩
          rw [← hx] at c1 he
          rw [← hy] at c2 he
          have hxy := str_ne he
          clear hx hy
          go_wp2_with fail
          go_quiet (fail)
          go_wp2_with fail
          go_ret
          rw [HD.out]
          exact ⟨rfl, HBL.out.trans (below_draws (Below.refl _ _) _)⟩
      · obtain rfl : k = a.length := by omega
        have HD : Hid (decide (a = b) = true) := Lib.hid (decide_eq_true (eq_at HL.out HK.out))
        go_wp2_with fail
        go_ret
        rw [HD.out]
        exact ⟨rfl, HBL.out⟩
  · have HD : Hid (decide (a = b) = false) := Lib.hid (decide_eq_false (fun h => hl (by rw [h])))
    have d1 : ((a.length : Int) != (b.length : Int)) = true := by rw [bne_iff_ne]; omega
    clear ha hb hl
    go_enter Try.func14, Try.ntmps14
    go_wp2_with fail
    go_ret
    rw [HD.out]
    exact ⟨rfl, Below.refl _ _⟩
end Go.Proofs.Ythbleofighjjgaa.LG
