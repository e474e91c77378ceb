/-
  The store law's awake: its calls, one after the other.
-/
import Derived.Test.YtcipgjelbnmdiaaSoG
namespace Go.Proofs.Ytcipgjelbnmdiaa.ST
open Go.RowKit Go.Shelf Go.Proofs.Ytcipgjelbnmdiaa.B
attribute [local go_sem] Oper.semAt_some

/-- A new store. -/
def NewP (n : Nat) (w : World) (e : Ending) (w' : World) : Prop := ∃ sb g c, e = .returned (.tuple #[pt sb, .int .i64 0]) ∧ SB w' sb g c (List.replicate n zbk) ⟨⟨false, 0, 0⟩, false, 0⟩ ∧ Below w.heap.size w w' ∧ w.heap.size ≤ sb ∧ w.heap.size ≤ g
theorem new_any (w : World) (n : Nat) (h1 : 1 ≤ n) (h2 : n ≤ 256) : Calls Try.prog 26 #[.int .i64 (n : Int)] w fun e w' => NewP n w e w' :=
  (new_yes w n h1 h2).mono fun _ _ ⟨he, hs, hb⟩ => ⟨_, _, _, he, hs, hb, Nat.le_succ _, Nat.le_refl _⟩
def A0 : List Bk := List.replicate 3 zbk
def F0 : Fs := ⟨⟨false, 0, 0⟩, false, 0⟩
def one : ByteArray := ⟨#[111, 110, 101]⟩
def two : ByteArray := ⟨#[116, 119, 111]⟩
def xyz : ByteArray := ⟨#[88, 89, 90]⟩
def sho : ByteArray := ⟨#[115, 104, 111, 114, 116]⟩
def W1 : Int × List Bk × Fs := wrS A0 F0 1 (blk one)
def F2 : Fs := ⟨mkF 1 2, W1.2.2.down, W1.2.2.wr⟩
def W2 : Int × List Bk × Fs := wrS W1.2.1 F2 2 (blk two)
def W3 : Int × List Bk × Fs := wrS W2.2.1 W2.2.2 1 (blk xyz)
def F5 : Fs := ⟨⟨false, 0, 0⟩, false, W3.2.2.wr⟩
def T5 : ByteArray := readS W3.2.1 false 1
def All5 : ByteArray := ⟨W3.2.1.flatten.toArray⟩
theorem a1 : W1.1 = 0 := by kernel_rfl
theorem a2 : readS W1.2.1 W1.2.2.down 1 = blk one := by kernel_rfl
theorem a3 : reachE W1.2.1.length W1.2.2.down 1 = 0 := by kernel_rfl
theorem a4 : (wrS W1.2.1 W1.2.2 1 sho).1 = 1 := by kernel_rfl
theorem a5 : (wrS W1.2.1 W1.2.2 1 sho).2 = W1.2 := by kernel_rfl
theorem a6 : W2.1 = 0 := by kernel_rfl
theorem a7 : W3.1 = 16 := by kernel_rfl
theorem a8 : reachE W3.2.1.length W3.2.2.down 1 = 16 := by kernel_rfl
theorem a9 : W3.2.2.down = true := by kernel_rfl
theorem a10 : reachE W3.2.1.length false 1 = 0 := by kernel_rfl
theorem a11 : reachE W3.2.1.length false 3 = 3 := by kernel_rfl
theorem a12 : W3.2.1.length = 3 := by kernel_rfl
theorem a13 : W3.2.2.wr = 2 := by kernel_rfl
theorem a14 : All5.size = 96 := by kernel_rfl
theorem a15 : All5.extract 64 67 = ⟨#[116, 119, 111]⟩ := by kernel_rfl
theorem a16 : ⟨#[88, 89]⟩ ++ (blk one).extract 2 (blk one).size = T5 := by kernel_rfl
theorem a17 : readS W3.2.1 W3.2.2.down 1 = ⟨#[]⟩ := by kernel_rfl
theorem a18 : (blk one).size = 32 := blk_size _
set_option maxRecDepth 100000 in
set_option maxHeartbeats 4000000 in
theorem awake_any (w : World) : Calls Try.prog 25 #[] w fun e w' => e = .returned (.bool true) ∧ Below w.heap.size w w' := by
  have CN := Lib.hid (new_any w 3 (by omega) (by omega))
  go_enter Try.func25, Try.ntmps25
  go_wp2_with fail
  refine CN.out.mono ?_
  rintro e w1 ⟨sb, g, c, rfl, hs, hb, h1, h2⟩
  have S1 : Hid (SB w1 sb g c A0 F0) := Lib.hid hs
  have B1 := Lib.hid hb
  clear hs hb CN
  go_wp2_with fail
  refine (new_no w1 0 (.inl (by omega))).mono ?_
  rintro e w1' ⟨rfl, hw⟩
  subst hw
  go_wp2_with fail
  refine (block_any _ ⟨#[111, 110, 101]⟩ (by decide)).mono ?_
  rintro e wb ⟨rfl, hw⟩
  subst hw
  rw [show blk ⟨#[111, 110, 101]⟩ = blk one from rfl]
  go_wp2_with fail
  refine (write_any _ sb g c A0 F0 S1.out 1 (blk one) (by decide)).mono ?_
  rintro e w2 ⟨he, hs, hk⟩
  rw [show (wrS A0 F0 1 (blk one)).1 = 0 from a1] at he
  subst he
  have S2 : Hid (SB w2 sb g c W1.2.1 W1.2.2) := Lib.hid (by exact hs)
  have B2 := Lib.hid (hk.below B1.out h1 h2 B1.out.size)
  clear hs hk S1 B1
  go_wp2_with fail
  refine (read_any _ sb g c W1.2.1 W1.2.2 S2.out 1).mono ?_
  rintro e w3 ⟨he, hk⟩
  rw [show readS W1.2.1 W1.2.2.down 1 = blk one from a2, show reachE W1.2.1.length W1.2.2.down 1 = 0 from a3] at he
  subst he
  have S3 := Lib.hid (S2.out.below hk)
  have B3 := Lib.hid (B2.out.trans (hk.mono B2.out.size))
  clear hk S2 B2
  go_wp2_with fail
  refine (write_any _ sb g c W1.2.1 W1.2.2 S3.out 1 ⟨#[115, 104, 111, 114, 116]⟩ (by decide)).mono ?_
  rintro e w4 ⟨he, hs, hk⟩
  rw [show (wrS W1.2.1 W1.2.2 1 ⟨#[115, 104, 111, 114, 116]⟩).1 = 1 from a4] at he
  subst he
  have S4 : Hid (SB w4 sb g c W1.2.1 W1.2.2) := Lib.hid (by rw [show (wrS W1.2.1 W1.2.2 1 ⟨#[115, 104, 111, 114, 116]⟩).2 = W1.2 from a5] at hs; exact hs)
  have B4 := Lib.hid (hk.below B3.out h1 h2 B3.out.size)
  clear hs hk S3 B3
  go_wp2_with fail
  refine (fuse_any _ sb g c W1.2.1 W1.2.2 S4.out 1 2 (by decide) (by decide)).mono ?_
  rintro e w5 ⟨rfl, hs, hk⟩
  have S5 : Hid (SB w5 sb g c W1.2.1 F2) := Lib.hid hs
  have B5 := Lib.hid (hk.below B4.out h1 h2 B4.out.size)
  clear hs hk S4 B4
  go_wp2_with fail
  refine (block_any _ ⟨#[116, 119, 111]⟩ (by decide)).mono ?_
  rintro e wb ⟨rfl, hw⟩
  subst hw
  rw [show blk ⟨#[116, 119, 111]⟩ = blk two from rfl]
  go_wp2_with fail
  refine (write_any _ sb g c W1.2.1 F2 S5.out 2 (blk two) (by decide)).mono ?_
  rintro e w6 ⟨he, hs, hk⟩
  rw [show (wrS W1.2.1 F2 2 (blk two)).1 = 0 from a6] at he
  subst he
  have S6 : Hid (SB w6 sb g c W2.2.1 W2.2.2) := Lib.hid (by exact hs)
  have B6 := Lib.hid (hk.below B5.out h1 h2 B5.out.size)
  clear hs hk S5 B5
  go_wp2_with fail
  refine (block_any _ ⟨#[88, 89, 90]⟩ (by decide)).mono ?_
  rintro e wb ⟨rfl, hw⟩
  subst hw
  rw [show blk ⟨#[88, 89, 90]⟩ = blk xyz from rfl]
  go_wp2_with fail
  refine (write_any _ sb g c W2.2.1 W2.2.2 S6.out 1 (blk xyz) (by decide)).mono ?_
  rintro e w7 ⟨he, hs, hk⟩
  rw [show (wrS W2.2.1 W2.2.2 1 (blk xyz)).1 = 16 from a7] at he
  subst he
  have S7 : Hid (SB w7 sb g c W3.2.1 W3.2.2) := Lib.hid (by exact hs)
  have B7 := Lib.hid (hk.below B6.out h1 h2 B6.out.size)
  clear hs hk S6 B6
  go_wp2_with fail
  refine (read_any _ sb g c W3.2.1 W3.2.2 S7.out 1).mono ?_
  rintro e w8 ⟨he, hk⟩
  rw [show readS W3.2.1 W3.2.2.down 1 = ⟨#[]⟩ from a17, show reachE W3.2.1.length W3.2.2.down 1 = 16 from a8] at he
  subst he
  have S8 := Lib.hid (S7.out.below hk)
  have B8 := Lib.hid (B7.out.trans (hk.mono B7.out.size))
  clear hk S7 B7
  go_wp2_with fail
  refine (down_any _ sb g c W3.2.1 W3.2.2 S8.out).mono ?_
  rintro e wd ⟨he, hw⟩
  subst hw
  rw [a9] at he
  subst he
  go_wp2_with fail
  refine (copy_any _ sb g c W3.2.1 W3.2.2 S8.out).mono ?_
  rintro e w9 ⟨sc, gc, cc, rfl, hs, hk, g1, g2⟩
  have HC : Hid (SB w9 sc gc cc W3.2.1 W3.2.2) := Lib.hid hs
  have S9 := Lib.hid (S8.out.below hk)
  have B9 := Lib.hid (B8.out.trans (hk.mono B8.out.size))
  have n1 : sb ≠ sc := by have := S8.out.lt; omega
  have n2 : sb ≠ gc := by have := S8.out.lt; omega
  have n3 : g ≠ sc := by have := S8.out.ltg; omega
  have n4 : g ≠ gc := by have := S8.out.ltg; omega
  clear hs hk S8 B8 g1 g2
  go_wp2_with fail
  refine (up_any _ sb g c W3.2.1 W3.2.2 S9.out).mono ?_
  rintro e w10 ⟨rfl, hs, hk⟩
  have S10 : Hid (SB w10 sb g c W3.2.1 F5) := Lib.hid hs
  have B10 := Lib.hid (hk.below B9.out h1 h2 B9.out.size)
  have HC2 := Lib.hid (HC.out.other hk (Ne.symm n1) (Ne.symm n3) (Ne.symm n2) (Ne.symm n4))
  clear hs hk HC S9 B9 n1 n2 n3 n4
  go_wp2_with fail
  refine (read_any _ sb g c W3.2.1 F5 S10.out 1).mono ?_
  rintro e w11 ⟨he, hk⟩
  rw [show readS W3.2.1 F5.down 1 = T5 from rfl, show reachE W3.2.1.length F5.down 1 = 0 from a10] at he
  subst he
  have S11 := Lib.hid (S10.out.below hk)
  have B11 := Lib.hid (B10.out.trans (hk.mono B10.out.size))
  have HC11 := Lib.hid (HC2.out.below hk)
  clear hk S10 B10 HC2
  go_wp2_with fail
  refine (read_any _ sb g c W3.2.1 F5 S11.out 3).mono ?_
  rintro e w12 ⟨he, hk⟩
  rw [show readS W3.2.1 F5.down 3 = ⟨#[]⟩ from rfl, show reachE W3.2.1.length F5.down 3 = 3 from a11] at he
  subst he
  have S12 := Lib.hid (S11.out.below hk)
  have B12 := Lib.hid (B11.out.trans (hk.mono B11.out.size))
  have HC12 := Lib.hid (HC11.out.below hk)
  clear hk S11 B11 HC11
  go_wp2_with fail
  refine (bytes_any _ sb g c W3.2.1 F5 S12.out).mono ?_
  rintro e w13 ⟨he, hk⟩
  rw [show (⟨W3.2.1.flatten.toArray⟩ : ByteArray) = All5 from rfl] at he
  subst he
  have S13 := Lib.hid (S12.out.below hk)
  have HF := Lib.hid (HC12.out.below hk)
  have B13 := Lib.hid (B12.out.trans (hk.mono B12.out.size))
  clear hk S12 B12 HC12
  have hb1 : ∀ W, Calls Try.prog 28 #[.string ⟨#[111, 110, 101]⟩] W fun e w' => e = .returned (.string (blk one)) ∧ W = w' := fun W => block_any W ⟨#[111, 110, 101]⟩ (by decide)
  have HW : Hid (Calls Try.prog 38 #[pt sb] w13 fun e w' => e = .returned (.int .i64 2) ∧ w13 = w') := Lib.hid (by have := writes_any _ sb g c W3.2.1 F5 S13.out; rw [show F5.wr = 2 from a13] at this; exact this)
  have HBk : Hid (Calls Try.prog 39 #[pt sb] w13 fun e w' => e = .returned (.int .i64 3) ∧ w13 = w') := Lib.hid (by have := blocks_any _ sb g c W3.2.1 F5 S13.out; rw [a12] at this; exact this)
  have HD1 : Hid (Calls Try.prog 37 #[pt sc] w13 fun e w' => e = .returned (.bool true) ∧ w13 = w') := Lib.hid (by have := down_any _ sc gc cc W3.2.1 W3.2.2 HF.out; rw [a9] at this; exact this)
  have HD2 : Hid (Calls Try.prog 37 #[pt sb] w13 fun e w' => e = .returned (.bool false) ∧ w13 = w') := Lib.hid (down_any _ sb g c W3.2.1 F5 S13.out)
  have HBL := Lib.hid hb1
  clear hb1
  obtain ⟨O, hO⟩ : ∃ O, O = blk one := ⟨_, rfl⟩
  obtain ⟨T, hT⟩ : ∃ T, T = T5 := ⟨_, rfl⟩
  obtain ⟨Al, hAl⟩ : ∃ Al, Al = All5 := ⟨_, rfl⟩
  have e14 : Al.size = 96 := by rw [hAl]; exact a14
  have e15 : Al.extract 64 67 = ⟨#[116, 119, 111]⟩ := by rw [hAl]; exact a15
  have e16 : ⟨#[88, 89]⟩ ++ O.extract 2 O.size = T := by rw [hO, hT]; exact a16
  have e18 : O.size = 32 := by rw [hO]; exact a18
  rw [e18] at e16
  rw [← hO] at HBL ⊢
  rw [← hT, ← hAl]
  clear hO hT hAl
  go_wp2_with (first | (refine (HBL.out _).mono ?_; rintro e wz ⟨rfl, hw⟩; subst hw) | (refine HW.out.mono ?_; rintro e wz ⟨rfl, hw⟩; subst hw) | (refine HBk.out.mono ?_; rintro e wz ⟨rfl, hw⟩; subst hw))
  refine HD1.out.mono ?_
  rintro e wz ⟨rfl, hw⟩
  subst hw
  go_wp2_with fail
  refine HD2.out.mono ?_
  rintro e wz ⟨rfl, hw⟩
  subst hw
  go_wp2_with fail
  go_ret
  exact ⟨rfl, B13.out⟩
end Go.Proofs.Ytcipgjelbnmdiaa.ST
