/-
  The log laws' fixed calls.
-/
import Derived.Test.YthbleofighjjgaaLgE
namespace Go.Proofs.Ythbleofighjjgaa.LG
open Go.RowKit Go.Shelf Go.Proofs.Ythbleofighjjgaa.B
attribute [local go_sem] Oper.semAt_some

theorem map_by {l m : List ByteArray} (h : l.map by' = m.map by') : l = m := by
  induction l generalizing m with
  | nil => cases m with
    | nil => rfl
    | cons => cases h
  | cons a r ih => cases m with
    | nil => cases h
    | cons b m =>
      rw [List.map_cons, List.map_cons] at h
      obtain ⟨h1, h2⟩ := List.cons.inj h
      rw [by_inj h1, ih h2]
theorem str_full {s : ByteArray} (h : 0 < s.size) : s.toList.isEmpty = false := by
  rw [ByteArray.toList_eq, List.isEmpty_eq_false_iff]
  intro e
  have := by_len s
  unfold by' at this
  rw [e] at this
  simp at this; omega
theorem str_void {s : ByteArray} (h : s.toList.isEmpty = true) : s = ⟨#[]⟩ := by
  rw [ByteArray.toList_eq, List.isEmpty_iff] at h
  exact by_inj h
def sAB : ByteArray := ⟨#[97, 98]⟩
def sC : ByteArray := ⟨#[99]⟩
def sJ : ByteArray := ⟨(cat [[97, 98], [99]]).toArray⟩
theorem frab : frE sAB = (frA sAB, 0) := rfl
theorem fr0 : frE ⟨#[]⟩ = (⟨#[]⟩, 3) := rfl
theorem joab : joE [sAB, sC] = (sJ, 0) := by unfold joE; rw [if_pos (by decide)]; rfl
theorem jsize : sJ.size = 19 := by rw [← by_len]; rfl
theorem frab_size : (frA sAB).size = 10 := fr_size sAB
theorem frab3 : (frA sAB).extract 0 3 = ⟨#[1, 0, 2]⟩ := by apply by_inj; rw [by_cut]; rfl
theorem frab7 : (frA sAB).extract 7 10 = ⟨#[97, 98, 1]⟩ := by apply by_inj; rw [by_cut]; rfl
theorem crc9 : crc (by' ⟨#[49, 50, 51, 52, 53, 54, 55, 56, 57]⟩) = 3421780262 := by decide +kernel
theorem oks : ∀ r ∈ ([[97, 98], [99]] : List Bs), Ok r := by decide
theorem scanJ : ScanP (by' (sJ ++ ⟨#[0, 1]⟩)) ([sAB, sC].map by') := ⟨oks, [0, 1], by rw [by_append]; rfl, nof_short (by decide)⟩
theorem scanK : ScanP (by' (sJ.extract 0 18 ++ ⟨#[0]⟩)) ([sAB].map by') :=
  ⟨by decide, (frL [99]).take 8 ++ List.replicate 1 0, by rw [by_append, by_cut]; rfl, nof_torn (by decide) (by rw [fr_len]; decide)⟩
theorem row2 {w : World} (b : Nat) (l : List ByteArray) (h : w.heap[b]? = some (.cells (l.map Value.string).toArray 9 (0, 0))) : Row w (some ⟨b, 0, none⟩) (l.flatMap stC) := by
  intro _
  refine ⟨b, 0, rfl, blk_lt h, fun j u hu => ?_⟩
  rw [Nat.zero_add]
  refine cell_blk h ?_
  rw [← map_st] at hu
  simpa using hu
set_option maxHeartbeats 4000000 in
set_option maxRecDepth 100000 in
theorem awake_any (w : World) : Calls Try.prog 7 #[] w fun e w' => e = .returned (.bool true) ∧ Below w.heap.size w w' := by
  have C1 := Lib.hid (frame_any w sAB (by decide))
  rw [frab] at C1
  obtain ⟨F, hF⟩ : ∃ F, F = frA sAB := ⟨_, rfl⟩
  have z1 : F.size = 10 := by rw [hF]; exact frab_size
  have z2 : F.extract 0 3 = ⟨#[1, 0, 2]⟩ := by rw [hF]; exact frab3
  have z3 : F.extract 7 10 = ⟨#[97, 98, 1]⟩ := by rw [hF]; exact frab7
  rw [← hF] at C1
  clear hF
  obtain ⟨J, hJ⟩ : ∃ J, J = sJ := ⟨_, rfl⟩
  have z4 : J.size = 19 := by rw [hJ]; exact jsize
  have HJ2 : Hid (joE [sAB, sC] = (J, 0)) := Lib.hid (by rw [hJ]; exact joab)
  have HS1 : Hid (ScanP (by' (J ++ ⟨#[0, 1]⟩)) ([sAB, sC].map by')) := Lib.hid (by rw [hJ]; exact scanJ)
  have HS2 : Hid (ScanP (by' (J.extract 0 18 ++ ⟨#[0]⟩)) ([sAB].map by')) := Lib.hid (by rw [hJ]; exact scanK)
  have C4 := fun W => Lib.hid (scan_any W (J ++ ⟨#[0, 1]⟩) (by rw [ByteArray.size_append, z4]; decide))
  have C5 := fun W => Lib.hid (scan_any W (J.extract 0 18 ++ ⟨#[0]⟩) (by rw [ByteArray.size_append, ByteArray.size_extract, z4]; decide))
  have hJb := str_full (s := J) (by rw [z4]; decide)
  clear hJ
  go_enter Try.func7, Try.ntmps7
  go_wp2_with fail
  refine C1.out.mono ?_
  rintro e w1 ⟨rfl, hb1⟩
  have HB1 := Lib.hid hb1
  clear hb1
  go_wp2_with fail
  refine (frame_any w1 ⟨#[]⟩ (by decide)).mono ?_
  rintro e w2 ⟨he, hb2⟩
  rw [fr0] at he
  subst he
  have HB2 := Lib.hid (HB1.out.trans (hb2.mono HB1.out.size))
  clear hb2 HB1
  go_wp2_with fail
  refine (join_any _ (some ⟨w2.heap.size, 0, none⟩) 2 [sAB, sC] (row2 w2.heap.size [sAB, sC] (heap_new w2 _)) (by decide) (by decide)).mono ?_
  rintro e w3 ⟨he, hb3⟩
  rw [HJ2.out] at he
  subst he
  have HB3 : Hid (Below w.heap.size w w3) := Lib.hid ((HB2.out.alloc HB2.out.size _).trans (hb3.mono (by rw [World.size_alloc]; have := HB2.out.size; omega)))
  clear hb3 HB2 HJ2
  go_wp2_with fail
  refine (C4 _).out.mono ?_
  rintro e w4 ⟨hb4, v4, l4, rfl, ho4, hs4⟩
  obtain rfl : l4 = [sAB, sC] := map_by (scan_same hs4 HS1.out)
  have n4 : (cat ([sAB, sC].map by')).length = 19 := by decide
  rw [n4]
  have HO4 := Lib.hid (own_base ho4 HB3.out.size)
  have HB4 := Lib.hid (HB3.out.trans (hb4.mono HB3.out.size))
  clear hb4 HB3 ho4 hs4 HS1 C4 n4
  go_wp2_with fail
  refine (C5 _).out.mono ?_
  rintro e w5 ⟨hb5, v5, l5, rfl, ho5, hs5⟩
  obtain rfl : l5 = [sAB] := map_by (scan_same hs5 HS2.out)
  have n5 : (cat ([sAB].map by')).length = 10 := by decide
  rw [n5]
  have HO5 := Lib.hid (own_base ho5 HB4.out.size)
  have HO45 := Lib.hid (own_below HO4.out hb5)
  have HB5 := Lib.hid (HB4.out.trans (hb5.mono HB4.out.size))
  clear hb5 HB4 ho5 hs5 HS2 C5 n5 HO4
  go_wp2_with fail
  refine (sum_any w5 _ (by decide)).mono ?_
  rintro e w6 ⟨rfl, hb6⟩
  rw [crc9]
  have HO56 := Lib.hid (own_below HO5.out hb6)
  have HO46 := Lib.hid (own_below HO45.out hb6)
  have HB6 := Lib.hid (HB5.out.trans (hb6.mono HB5.out.size))
  clear hb6 HO45 HO5 HB5
  obtain ⟨A4, c4, rfl, hr4⟩ := row_shut HO46.out
  obtain ⟨A5, c5, rfl, hr5⟩ := row_shut HO56.out
  have HR4 := Lib.hid hr4
  have HR5 := Lib.hid hr5
  clear hr4 hr5 HO46 HO56
  go_wp2_with fail
  have HA6 : Hid (Below w6.heap.size w6 (w6.alloc (.cells #[.string ⟨#[97, 98]⟩, .string ⟨#[99]⟩] 9))) := Lib.hid ((Below.refl _ _).alloc (Nat.le_refl _) _)
  refine (same_any _ A4 _ c4 2 [sAB, sC] [sAB, sC] (HR4.out.below (Nat.le_refl _) HA6.out) (row2 w6.heap.size [sAB, sC] (heap_new w6 _)) (by decide)).mono ?_
  rintro e w7 ⟨he, hb7⟩
  have hsm : decide ([sAB, sC] = [sAB, sC]) = true := decide_eq_true rfl
  rw [hsm] at he
  subst he
  have hz6 : w6.heap.size ≤ (w6.alloc (.cells #[.string ⟨#[97, 98]⟩, .string ⟨#[99]⟩] 9)).heap.size := HA6.out.size
  have HX7 := Lib.hid (HA6.out.trans (hb7.mono hz6))
  have HB7 := Lib.hid (HB6.out.trans (HX7.out.mono HB6.out.size))
  have HR57 := Lib.hid (HR5.out.below (Nat.le_refl _) HX7.out)
  clear hb7 hsm hz6
  go_wp2_with fail
  have HA7 : Hid (Below w7.heap.size w7 (w7.alloc (.cells #[.string ⟨#[97, 98]⟩] 9))) := Lib.hid ((Below.refl _ _).alloc (Nat.le_refl _) _)
  refine (same_any _ A5 _ c5 1 [sAB] [sAB] (HR57.out.below (Nat.le_refl _) HA7.out) (row2 w7.heap.size [sAB] (heap_new w7 _)) (by decide)).mono ?_
  rintro e w8 ⟨he, hb8⟩
  have hsm : decide ([sAB] = [sAB]) = true := decide_eq_true rfl
  rw [hsm] at he
  subst he
  have hz7 : w7.heap.size ≤ (w7.alloc (.cells #[.string ⟨#[97, 98]⟩] 9)).heap.size := HA7.out.size
  have HB8 := Lib.hid (HB7.out.trans ((HA7.out.trans (hb8.mono hz7)).mono HB7.out.size))
  clear hb8 hsm hz7
  go_wp2_with fail
  go_ret
  exact ⟨rfl, HB8.out⟩
end Go.Proofs.Ythbleofighjjgaa.LG
