/-
  StoreTorn: a torn write changes the first bytes of its block alone: whatever the blocks, the writes, the torn one; no condition.
-/
import Derived.Test.YtcipgjelbnmdiaaSoJ
import Derived.ShutString
import Derived.ChangeMaps5
namespace Go.Proofs.Ytcipgjelbnmdiaa.STorn
open Go.RowKit Go.Shelf Go.Deep Go.Joins Go.ChangeShapes Go.WideShapes Go.Proofs.Ytcipgjelbnmdiaa.B Go.Proofs.Ytcipgjelbnmdiaa.ST Go.Proofs.Ytcipgjelbnmdiaa.OP
open Go.ChangeMaps (open_string)
attribute [local go_sem] Oper.semAt_some
set_option maxRecDepth 100000 in
set_option maxHeartbeats 8000000 in
theorem walk (W : World) (b0 b2 b4 : UInt8) (A : Option Addr) (c : Nat) (l : List Sa) (d : ByteArray) (hr : Row W A (l.flatMap saC)) :
    Calls Try.prog 6 #[.int .u8 (b0.toNat : Int), .slice A l.length c, .int .u8 (b2.toNat : Int), .string d, .int .u8 (b4.toNat : Int)] W fun e W' => e = .returned (.bool true) ∧ Below W.heap.size W W' := by
  have CA := Lib.hid (awake_any W)
  have HR_l := Lib.hid hr
  clear hr
  have hb0 : b0.toNat < 256 := b0.toNat_lt
  have hb2 : b2.toNat < 256 := b2.toNat_lt
  have hb4 : b4.toNat < 256 := b4.toNat_lt
  generalize b0.toNat = n0 at *
  generalize b2.toNat = n2 at *
  generalize b4.toNat = n4 at *
  obtain ⟨m0, hm0⟩ : ∃ m0, m0 = n0 % 20 := ⟨_, rfl⟩
  have hm1 : (n0 : Int) % 20 = (m0 : Int) := by omega
  obtain ⟨n, hn⟩ : ∃ n, n = m0 + 1 := ⟨_, rfl⟩
  have hn0 : (m0 : Int) + 1 = (n : Int) := by omega
  have hn1 : 1 ≤ n := by omega
  have hn2 : n ≤ 256 := by omega
  have hm20 : m0 < 20 := by omega
  obtain ⟨kk, hkk⟩ : ∃ kk, kk = n2 % n := ⟨_, rfl⟩
  have hkk1 : (n2 : Int) % (n : Int) = (kk : Int) := by rw [hkk]; omega
  have hkk2 : kk < n := by rw [hkk]; exact Nat.mod_lt _ hn1
  obtain ⟨p, hp⟩ : ∃ p, p = n4 % 33 := ⟨_, rfl⟩
  have hp1 : (n4 : Int) % 33 = (p : Int) := by omega
  have hp2 : p ≤ 32 := by omega
  obtain ⟨m, hm⟩ : ∃ m, m = kk * 32 := ⟨_, rfl⟩
  have hm2 : (kk : Int) * 32 = (m : Int) := by omega
  obtain ⟨mp, hmp⟩ : ∃ mp, mp = kk * 32 + p := ⟨_, rfl⟩
  have hmp2 : (m : Int) + (p : Int) = (mp : Int) := by omega
  have HM := Lib.hid (And.intro hm hmp)
  have hmn : mp ≤ n * 32 := by omega
  have hmm : m ≤ mp := by omega
  clear hm0 hn hkk hp hm hmp
  go_enter Try.func6, Try.ntmps6
  go_wp2_with fail
  refine CA.out.mono ?_
  rintro e W1 ⟨rfl, hb1⟩
  have HB1 := Lib.hid hb1
  clear hb1 CA
  go_wp2_with fail
  refine (new_any W1 n hn1 hn2).mono ?_
  rintro e W2 ⟨sb, g, cp, rfl, hs, hb2, h1, h2⟩
  have hl1 : W.heap.size ≤ sb := Nat.le_trans HB1.out.size h1
  have hl2 : W.heap.size ≤ g := Nat.le_trans HB1.out.size h2
  have HI0 : Hid (TI W sb g cp n 0 W2) := Lib.hid ⟨HB1.out.trans (hb2.mono HB1.out.size), ⟨_, 0, List.length_replicate, Int.le_refl _, Int.le_refl _, hs⟩, hl1, hl2⟩
  clear hs hb2 h1 h2 HB1
  by_cases hbd : d.size ≤ 200
  · have hbd2 : ¬ (d.size : Int) > 200 := by omega
    go_upto_block 0 with fail
    go_cut [14] from 39 to 68 (fun _ wx => Hid (TI W sb g cp n 40 wx))
    case first =>
      go_wp2_with fail
      go_loopw [14] (fun i wr => ∃ k : Nat, k ≤ l.length ∧ k ≤ 40 ∧ i = .int .i64 (k : Int) ∧ Hid (TI W sb g cp n k wr)) (fun i _ => 40 - (intOf i).toNat)
      case atStart => exact ⟨0, Nat.zero_le _, Nat.zero_le _, rfl, HI0⟩
      case round =>
        clear HI0
        obtain ⟨k, hk, hk1, rfl, HI⟩ := hrel
        have hk0 : (0 : Int) ≤ (k : Int) := Int.natCast_nonneg _
        by_cases hlt : k < l.length
        · have hlt1 : (k : Int) < (l.length : Int) := by omega
          have hlt2 : decide ((k : Int) < (l.length : Int)) = true := decide_eq_true hlt1
          by_cases hk4 : k < 40
          · have hk5 : (k : Int) < 40 := by omega
            obtain ⟨bk, off, hA, hbk, c0⟩ := (HR_l.out.below (Nat.le_refl _) HI.out.b).at_ (k := 4) (fun _ => rfl) (by omega) hlt
            have x1 : wr.cell? ⟨bk, off + k * 4 + 1, none⟩ = some (.int .i64 l[k]!.i) := c0 1 _ rfl
            have x3 : wr.cell? ⟨bk, off + k * 4 + 3, none⟩ = some (.string l[k]!.data) := c0 3 _ rfl
            have HAE := Lib.hid hA
            rw [hA]
            clear hA
            obtain ⟨x, hx⟩ : ∃ x, x = l[k]! := ⟨_, rfl⟩
            rw [← hx] at x1 x3
            clear hx c0
            obtain ⟨xk, xi, xn, xd⟩ := x
            simp only at x1 x3
            by_cases hbig : xd.size ≤ 200
            · have hbig2 : ¬ (xd.size : Int) > 200 := by omega
              obtain ⟨L, wv, hL, hw0, hw1, hS⟩ := HI.out.h
              have HSB := Lib.hid hS
              have HLL := Lib.hid hL
              have HW := Lib.hid (And.intro hw0 hw1)
              clear hL hS hw0 hw1
              have HBK := Lib.hid (block_still wr.drew xd (by omega))
              have CW := Lib.hid (write_any wr.drew sb g cp L (calm wv) HSB.out.drew xi (blk xd) ⟨HW.out.1, by have := HW.out.2; show wv ≤ 1000000; omega⟩)
              obtain ⟨X0, hX0⟩ : ∃ X0, X0 = blk xd := ⟨_, rfl⟩
              rw [← hX0] at HBK CW
              clear hX0
              go_wp2_with fail
              refine wp_region_still_tail 12 (by kernel_rfl) (by kernel_rfl) ?_
              simp only [List.take_succ_cons, List.take_zero, List.drop_succ_cons, List.drop_zero]
              iterate 11 still_step
              still_call HBK.out
              refine wpStill_nil ?_
              go_wp2_with fail
              refine CW.out.mono ?_
              rintro e w2 ⟨rfl, hs2, hk2⟩
              have HI2 : Hid (TI W sb g cp n (k + 1) w2) := Lib.hid (HI.out.drew.put HLL.out HW.out.1 HW.out.2 xi X0 hk2 hs2)
              clear hs2 hk2 CW HBK x1 x3
              go_wp2_with fail
              go_roundw
              case rel => exact ⟨k + 1, hlt, hk4, by go_num, HI2⟩
              case measure => simp [intOf]; omega
            · have hbig2 : (xd.size : Int) > 200 := by omega
              have HB := Lib.hid HI.out.b
              go_wp2_with fail
              go_ret
              exact ⟨rfl, HB.out⟩
          · have hk5 : ¬ (k : Int) < 40 := by omega
            obtain rfl : k = 40 := by omega
            have hk6 : ((40 : Nat) : Int) = 40 := rfl
            go_wp2_with fail
            go_meet
            exact HI
        · have hlt1 : ¬ (k : Int) < (l.length : Int) := by omega
          have hlt2 : decide ((k : Int) < (l.length : Int)) = false := decide_eq_false hlt1
          have HI4 : Hid (TI W sb g cp n 40 wr) := Lib.hid (HI.out.more hk1)
          go_wp2_with fail
          go_meet
          exact HI4
    case rest =>
    clear HI0
    have HI := hcut
    clear hcut
    clear hl1 hl2
    obtain ⟨L, wv, hL, hw0, hw1, hS⟩ := HI.out.h
    have HSB := Lib.hid hS
    have HLL := Lib.hid hL
    have HLn := Lib.hid hS.len
    have HB3 := Lib.hid (And.intro HI.out.b HI.out.l)
    clear hL hS HI
    obtain ⟨w3, hw3⟩ : ∃ w3, w3 = wc := ⟨_, rfl⟩
    rw [← hw3] at HSB HB3 ⊢
    clear hw3
    go_wp2_with fail
    refine (bytes_any w3 sb g cp L _ HSB.out).mono ?_
    rintro e w4 ⟨rfl, hb4⟩
    have HS4 := Lib.hid (HSB.out.below hb4)
    have HB4 := Lib.hid (HB3.out.1.trans (hb4.mono HB3.out.1.size))
    have HLs := Lib.hid HB3.out.2
    clear hb4 HSB HB3
    obtain ⟨WA, hWA⟩ : ∃ WA : ByteArray, WA = ⟨L.flatten.toArray⟩ := ⟨_, rfl⟩
    rw [← hWA]
    have HWA := Lib.hid hWA
    clear hWA
    go_wp2_with fail
    refine (fuse_any w4 sb g cp L _ HS4.out 0 (p : Int) (by decide) ⟨by omega, by omega⟩).mono ?_
    rintro e w5 ⟨rfl, hs, hk⟩
    have HS5 : Hid (SB w5 sb g cp L ⟨⟨true, 0, (p : Int)⟩, false, wv⟩) := Lib.hid (by
      have e : mkF 0 (p : Int) = ⟨true, 0, (p : Int)⟩ := by unfold mkF; rw [if_neg (by decide), show max (p : Int) 0 % 33 = (p : Int) by omega]
      rw [e] at hs; exact hs)
    have HB5 := Lib.hid (hk.below HB4.out HLs.out.1 HLs.out.2 HB4.out.size)
    clear hs hk HS4 HB4
    have HBK : Hid (∀ W', Calls Try.prog 28 #[.string d] W' fun e w' => e = .returned (.string (blk d)) ∧ W' = w') := Lib.hid (fun W' => block_any W' d (by omega))
    have HBE : Hid (∀ W', Calls Try.prog 28 #[.string ⟨#[]⟩] W' fun e w' => e = .returned (.string (blk ⟨#[]⟩)) ∧ W' = w') := Lib.hid (fun W' => block_any W' ⟨#[]⟩ (by decide))
    have HXS0 := blk_size d
    obtain ⟨X, hX⟩ : ∃ X, X = blk d := ⟨_, rfl⟩
    rw [← hX] at HBK HXS0
    have HXS := Lib.hid HXS0
    clear hX HXS0
    have hr0 : reachE L.length false (kk : Int) = 0 := by unfold reachE; rw [if_neg (by decide), HLL.out, if_neg (by omega)]
    have hwt : wrS L ⟨⟨true, 0, (p : Int)⟩, false, wv⟩ (kk : Int) X = (16, L.set kk (onto L[kk]! (X.extract 0 p)), ⟨⟨true, 0, (p : Int)⟩, true, wv⟩) := by
      unfold wrS
      simp only [hr0]
      rw [if_neg (by decide), if_neg (by simpa using HXS.out), if_pos (show tearB ⟨true, 0, (p : Int)⟩ = true from rfl)]
      simp
    have HWT := Lib.hid hwt
    obtain ⟨LT, hLT⟩ : ∃ LT, LT = L.set kk (onto L[kk]! (X.extract 0 p)) := ⟨_, rfl⟩
    rw [← hLT] at HWT
    have HLTl : Hid (LT.length = n) := Lib.hid (by rw [hLT, List.length_set]; exact HLL.out)
    obtain ⟨NOW, hNOW⟩ : ∃ NOW : ByteArray, NOW = ⟨LT.flatten.toArray⟩ := ⟨_, rfl⟩
    have HTS := Lib.hid (torn_string (L := L) HLn.out (by rw [HLL.out]; exact hkk2) X HXS.out hp2 WA NOW HWA.out (by rw [hNOW, hLT]) HM.out.1 HM.out.2)
    have HNOW := Lib.hid hNOW.symm
    clear hr0 hwt hLT hNOW
    go_wp2_with fail
    refine (HBK.out _).mono ?_
    rintro e wb ⟨rfl, hw⟩
    subst hw
    go_wp2_with fail
    refine (write_any w5 sb g cp L _ HS5.out (kk : Int) X ⟨hw0, by show wv ≤ 1000000; omega⟩).mono ?_
    rintro e w6 ⟨he, hs, hk⟩
    rw [HWT.out] at he hs
    simp only at he hs
    subst he
    have HS6 := Lib.hid hs
    have HB6 := Lib.hid (hk.below HB5.out HLs.out.1 HLs.out.2 HB5.out.size)
    clear hs hk HS5 HB5 HWT
    go_wp2_with fail
    refine (down_any w6 sb g cp LT _ HS6.out).mono ?_
    rintro e wb ⟨rfl, hw⟩
    subst hw
    go_wp2_with fail
    refine (HBE.out _).mono ?_
    rintro e wb ⟨rfl, hw⟩
    subst hw
    go_wp2_with fail
    refine (write_any w6 sb g cp LT _ HS6.out 0 (blk ⟨#[]⟩) ⟨hw0, by show wv ≤ 1000000; omega⟩).mono ?_
    rintro e w7 ⟨he, hs, hk⟩
    have ed : wrS LT ⟨⟨true, 0, (p : Int)⟩, true, wv⟩ 0 (blk ⟨#[]⟩) = (16, LT, ⟨⟨true, 0, (p : Int)⟩, true, wv⟩) := by
      unfold wrS reachE
      rw [if_pos (by simp)]
      rfl
    rw [ed] at he hs
    simp only at he hs
    subst he
    have HS7 := Lib.hid hs
    have HB7 := Lib.hid (hk.below HB6.out HLs.out.1 HLs.out.2 HB6.out.size)
    clear hs hk HS6 HB6 ed
    go_wp2_with fail
    refine (up_any w7 sb g cp LT _ HS7.out).mono ?_
    rintro e w8 ⟨rfl, hs, hk⟩
    have HS8 : Hid (SB w8 sb g cp LT (calm wv)) := Lib.hid hs
    have HB8 := Lib.hid (hk.below HB7.out HLs.out.1 HLs.out.2 HB7.out.size)
    clear hs hk HS7 HB7
    go_wp2_with fail
    refine (bytes_any w8 sb g cp LT _ HS8.out).mono ?_
    rintro e w9 ⟨rfl, hb9⟩
    rw [HNOW.out]
    have HS9 := Lib.hid (HS8.out.below hb9)
    have HB9 := Lib.hid (HB8.out.trans (hb9.mono HB8.out.size))
    clear hb9 HS8 HB8
    have hts := HTS.out
    rw [HLL.out] at hts
    obtain ⟨hwz, hsum⟩ := hts
    obtain ⟨NZ, hNZ⟩ : ∃ NZ, NZ = n * 32 := ⟨_, rfl⟩
    have hNZ8 : NZ ≤ 8192 := by omega
    rw [← hNZ] at hwz hmn
    clear hNZ
    have hXs : X.size = 32 := HXS.out
    rw [hwz] at hsum
    have HBS := Lib.hid (fun W' => (HBK.out W').mono (fun e w' (h : _ ∧ _) => (⟨h.1, h.2.symm⟩ : e = .returned (.string X) ∧ w' = W')))
    have hwe : (wrS LT (calm wv) (kk : Int) X).1 = 0 := by
      unfold wrS
      have h0 : reachE LT.length (calm wv).down (kk : Int) = 0 := by show reachE LT.length false (kk : Int) = 0; unfold reachE; rw [if_neg (by decide), HLTl.out, if_neg (by omega)]
      rw [h0, if_neg (by decide), if_neg (by simpa using hXs), if_neg (by unfold calm tearB; simp)]
    have HWE := Lib.hid hwe
    clear hwe
    have z1 : (0 : Int) ≤ (m : Int) := Int.natCast_nonneg _
    have z2 : (m : Int) ≤ (NZ : Int) := by omega
    have z3 : (0 : Int) ≤ (mp : Int) := Int.natCast_nonneg _
    have z4 : (mp : Int) ≤ (NZ : Int) := by omega
    have z5 : (0 : Int) ≤ (p : Int) := Int.natCast_nonneg _
    have z6 : (p : Int) ≤ 32 := by omega
    have q1 : IntKind.i64.wrap (m : Int) = (m : Int) := by rw [IntKind.wrap_i64]; omega
    have q2 : IntKind.i64.wrap (mp : Int) = (mp : Int) := by rw [IntKind.wrap_i64]; omega
    have q3 : (9223372036854775807 < min m NZ + p) = False := by simp; omega
    have q4 : (9223372036854775807 < min m NZ + p + (NZ - mp)) = False := by simp; omega
    go_wp2_with fail
    refine wp_region_still_tail 23 (by kernel_rfl) (by kernel_rfl) ?_
    simp only [List.take_succ_cons, List.take_zero, List.drop_succ_cons, List.drop_zero]
    iterate 6 still_step
    still_call (HBS.out _)
    iterate 12 still_step
    iterate 3 still_step
    still_call (HBS.out _)
    refine wpStill_nil ?_
    go_wp2_with fail
    refine (write_any w9.drew sb g cp LT (calm wv) HS9.out.drew (kk : Int) X ⟨hw0, by show wv ≤ 1000000; omega⟩).mono ?_
    rintro e w10 ⟨he, hs, hk⟩
    rw [HWE.out] at he
    subst he
    have HBF := Lib.hid (hk.below (below_draws HB9.out 1) HLs.out.1 HLs.out.2 HB9.out.size)
    clear hs hk q1 q2 q3 q4
    go_wp2_with fail
    go_ret
    exact ⟨rfl, HBF.out⟩
  · have hbd2 : (d.size : Int) > 200 := by omega
    have HB := Lib.hid HI0.out.b
    go_wp2_with fail
    go_ret
    exact ⟨rfl, HB.out⟩

theorem own : ownKnob Try.prog.godebug = none := by kernel_rfl
set_option maxRecDepth 100000 in
theorem lifted (os : Os) (started : os.Started) (H : Type) (enc : TypeId × Value → H) :
    ReturnsInHanded {} Try.checked os 6 .any (Rows.storeTornSpec.pre6 enc Try.prog Try.f6 Rows.storeTornRow.domain false) (Rows.storeTornSpec.post enc Try.prog Try.f6 false true false false) := by
  refine returnsInHanded_of_change_sized (C := Try.checked) own started (by kernel_rfl) Try.func6
    (ChangeSpec.witness6 (enc := enc) (C := Try.checked) false ⟨#[], #[.int .u8 0, .slice none 0 0, .int .u8 0, .string ByteArray.empty, .int .u8 0], []⟩ 8 (by kernel_rfl) (by kernel_rfl) (by kernel_rfl) (by kernel_rfl)) ?_
  intro W base args ds gs before hval0 hW _ hsz0 _
  have hsz : (DataW.weightsEach Try.prog (Try.f6.params.toList ++ Rows.storeTornSpec.plain.varTypes Try.prog) (ds ++ gs)).all (· ≤ reachBytes) = true := hsz0
  have hval : ∀ (j : Nat) t v, Try.f6.params[j]? = some t → args[j]? = some v → Value.okWide Try.prog W .any base t v := hval0
  have hW' := hW
  obtain ⟨p, q, hA0, hV, rfl, _, _⟩ := hW
  have hA : DataW.TrodAll enc Try.prog W 0 (fun _ => true) true Try.f6.params.toList args.toList ds p := hA0
  rw [Try.params6] at hA hval hsz
  obtain ⟨v0, vs0, d0, ds0, p0, q0, hargs, rfl, rfl, h0, r0⟩ := trodAll_cons hA
  obtain ⟨v1, vs1, d1, ds1, p1, q1, e1, rfl, rfl, h1, r1⟩ := trodAll_cons r0
  obtain ⟨v2, vs2, d2, ds2, p2, q2, e2, rfl, rfl, h2, r2⟩ := trodAll_cons r1
  obtain ⟨v3, vs3, d3, ds3, p3, q3, e3, rfl, rfl, h3, r3⟩ := trodAll_cons r2
  obtain ⟨v4, vs4, d4, ds4, p4, q4, e4, rfl, rfl, h4, r4⟩ := trodAll_cons r3
  obtain ⟨rfl, rfl, rfl⟩ := trodAll_nil r4
  subst e4
  subst e3
  subst e2
  subst e1
  obtain rfl : args = #[v0, v1, v2, v3, v4] := by cases args; simp_all
  obtain ⟨rfl, rfl⟩ := trodVars_none hV
  obtain ⟨b0, rfl⟩ := open_u8 (hval 0 _ v0 rfl rfl) h0
  have hw1 : Wt Try.prog 57 d1 := Wt.of hsz (j := 1) rfl rfl
  obtain ⟨A1, c1, l1, rfl, hr1, hg1⟩ := open_sas (hval 1 _ v1 rfl rfl) h1 hw1
  obtain ⟨b2, rfl⟩ := open_u8 (hval 2 _ v2 rfl rfl) h2
  obtain ⟨a3, rfl, -, -, w3⟩ := open_string Try.underlying9 (hval 3 9 v3 rfl rfl) h3
  obtain ⟨b4, rfl⟩ := open_u8 (hval 4 _ v4 rfl rfl) h4
  clear hA0 hval0 hsz0
  simp only [List.append_nil] at hW'
  have hlt0 := fun x hx => hW'.lt x hx
  refine (walk W b0 b2 b4 A1 c1 l1 a3 hr1).mono fun e W' ⟨he2, hg⟩ => ?_
  subst he2
  have hargs := (trodAll_cons_mk (Below.trod progLaid (by kernel_rfl) (of_decide_eq_true (by kernel_rfl)) h0 hg (fun x hx => hlt0 x (List.mem_append_left _ hx))) (trodAll_cons_mk (Below.trod progLaid (by kernel_rfl) (of_decide_eq_true (by kernel_rfl)) h1 hg (fun x hx => hlt0 x (List.mem_append_right _ (List.mem_append_left _ hx)))) (trodAll_cons_mk (Below.trod progLaid (by kernel_rfl) (of_decide_eq_true (by kernel_rfl)) h2 hg (fun x hx => hlt0 x (List.mem_append_right _ (List.mem_append_right _ (List.mem_append_left _ hx))))) (trodAll_cons_mk (Below.trod progLaid (by kernel_rfl) (of_decide_eq_true (by kernel_rfl)) h3 hg (fun x hx => hlt0 x (List.mem_append_right _ (List.mem_append_right _ (List.mem_append_right _ (List.mem_append_left _ hx)))))) (trodAll_cons_mk (Below.trod progLaid (by kernel_rfl) (of_decide_eq_true (by kernel_rfl)) h4 hg (fun x hx => hlt0 x (List.mem_append_right _ (List.mem_append_right _ (List.mem_append_right _ (List.mem_append_right _ (hx))))))) (trodAll_mk0 (enc := enc) (P := Try.prog) (w := W')))))))
  simp only [List.append_nil] at hargs
  exact ⟨_, rfl, _, _, _, [], p0 ++ (p1 ++ (p2 ++ (p3 ++ (p4)))), [], hW', trodAll_cons_mk (shut_bool Try.underlying4 _) trodAll_mk0, hargs, rfl, hg.frame _, fun h => by cases h⟩

theorem proved : Rows.StoreTornSaid :=
  OpenClaim.holds_of_wide 6 Try.f6 rfl rfl rfl rfl rfl rfl rfl ⟨rfl, rfl, rfl, rfl, rfl⟩ rfl rfl rfl rfl rfl (by kernel_rfl) Try.func6 (by kernel_rfl)
    (of_decide_eq_true (by kernel_rfl)) (by unfold Func.isWrapper; first | (rw [if_pos (by decide +kernel)]; kernel_rfl) | (rw [if_neg (by decide +kernel)]; exact ⟨rfl, rfl⟩))
    (fun os started H enc _ => lifted os started H enc)
end Go.Proofs.Ytcipgjelbnmdiaa.STorn
