/-
  StoreApart: a copy goes on alike, and by itself: whatever is written to the one and to the other; no condition.
-/
import Derived.Test.YtcipgjelbnmdiaaSoJ
import Derived.ShutString
import Derived.ChangeMaps5
namespace Go.Proofs.Ytcipgjelbnmdiaa.SApart
open Go.RowKit Go.Shelf Go.Deep Go.Joins Go.ChangeShapes Go.WideShapes Go.Proofs.Ytcipgjelbnmdiaa.B Go.Proofs.Ytcipgjelbnmdiaa.ST Go.Proofs.Ytcipgjelbnmdiaa.OP
open Go.ChangeMaps (open_string)
attribute [local go_sem] Oper.semAt_some
/-- What stands between two rounds of writes to the copy. -/
structure TJ (W : World) (sb g cp : Nat) (L : List Bk) (wv : Int) (sc gc cc n k : Nat) (w : World) : Prop where
  t : TI W sc gc cc n (k + 40) w
  s : SB w sb g cp L (calm wv)
  ne : sb ≠ sc ∧ sb ≠ gc ∧ g ≠ sc ∧ g ≠ gc
theorem TJ.b {W : World} {sb g cp : Nat} {L : List Bk} {wv : Int} {sc gc cc n k : Nat} {w : World} (h : TJ W sb g cp L wv sc gc cc n k w) : Below W.heap.size W w := h.t.b
theorem TJ.h {W : World} {sb g cp : Nat} {L : List Bk} {wv : Int} {sc gc cc n k : Nat} {w : World} (h : TJ W sb g cp L wv sc gc cc n k w) : ∃ (L : List Bk) (wr : Int), L.length = n ∧ 0 ≤ wr ∧ wr ≤ ((k + 40 : Nat) : Int) ∧ SB w sc gc cc L (calm wr) := h.t.h
theorem TJ.more {W : World} {sb g cp : Nat} {L : List Bk} {wv : Int} {sc gc cc n k : Nat} {w : World} (h : TJ W sb g cp L wv sc gc cc n k w) (hk : k ≤ 40) : TJ W sb g cp L wv sc gc cc n 40 w := ⟨h.t.more (by omega), h.s, h.ne⟩
theorem TJ.drew {W : World} {sb g cp : Nat} {L : List Bk} {wv : Int} {sc gc cc n k : Nat} {w : World} (h : TJ W sb g cp L wv sc gc cc n k w) : TJ W sb g cp L wv sc gc cc n k w.drew := ⟨h.t.drew, h.s.drew, h.ne⟩
theorem TJ.put {W : World} {sb g cp : Nat} {L0 : List Bk} {wv : Int} {sc gc cc n k : Nat} {w w' : World} (h : TJ W sb g cp L0 wv sc gc cc n k w) {L : List Bk} {wr : Int} (hL : L.length = n) (h1 : 0 ≤ wr) (h2 : wr ≤ ((k + 40 : Nat) : Int)) (i : Int) (d : ByteArray)
    (hk : K2 sc gc w w') (hs : SB w' sc gc cc (wrS L (calm wr) i d).2.1 (wrS L (calm wr) i d).2.2) : TJ W sb g cp L0 wv sc gc cc n (k + 1) w' :=
  ⟨by have := h.t.put hL h1 h2 i d hk hs; rwa [show k + 40 + 1 = k + 1 + 40 by omega] at this, h.s.other hk h.ne.1 h.ne.2.1 h.ne.2.2.1 h.ne.2.2.2, h.ne⟩
set_option maxRecDepth 100000 in
set_option maxHeartbeats 8000000 in
theorem walk (W : World) (A : Option Addr) (c : Nat) (l : List Sa) (A2 : Option Addr) (c2 : Nat) (l2 : List Sa) (hr : Row W A (l.flatMap saC)) (hr2 : Row W A2 (l2.flatMap saC)) :
    Calls Try.prog 8 #[.slice A l.length c, .slice A2 l2.length c2] W fun e W' => e = .returned (.bool true) ∧ Below W.heap.size W W' := by
  have CA := Lib.hid (awake_any W)
  have HR_l := Lib.hid hr
  have HR_l2 := Lib.hid hr2
  clear hr hr2
  obtain ⟨n, hn⟩ : ∃ n : Nat, n = 9 := ⟨_, rfl⟩
  have hn0 : (9 : Int) = (n : Int) := by omega
  have hn1 : 1 ≤ n := by omega
  have hn2 : n ≤ 256 := by omega
  have CN := Lib.hid (fun W1 => new_any W1 n hn1 hn2)
  rw [hn] at CN
  subst hn
  clear hn0
  go_enter Try.func8, Try.ntmps8
  go_wp2_with fail
  refine CA.out.mono ?_
  rintro e W1 ⟨rfl, hb1⟩
  have HB1 := Lib.hid hb1
  clear hb1 CA
  go_wp2_with fail
  refine (CN.out W1).mono ?_
  rintro e W2 ⟨sb, g, cp, rfl, hs, hb2, h1, h2⟩
  have hl1 : W.heap.size ≤ sb := Nat.le_trans HB1.out.size h1
  have hl2 : W.heap.size ≤ g := Nat.le_trans HB1.out.size h2
  have HI0 : Hid (TI W sb g cp 9 0 W2) := Lib.hid ⟨HB1.out.trans (hb2.mono HB1.out.size), ⟨_, 0, List.length_replicate, Int.le_refl _, Int.le_refl _, hs⟩, hl1, hl2⟩
  clear hs hb2 h1 h2 HB1
  go_upto_block 0 with fail
  go_cut [7] from 19 to 48 (fun _ wx => Hid (TI W sb g cp 9 40 wx))
  case first =>
    go_wp2_with fail
    go_loopw [7] (fun i wr => ∃ k : Nat, k ≤ l.length ∧ k ≤ 40 ∧ i = .int .i64 (k : Int) ∧ Hid (TI W sb g cp 9 k wr)) (fun i _ => 40 - (intOf i).toNat)
    case atStart => exact ⟨0, Nat.zero_le _, Nat.zero_le _, rfl, HI0⟩
    case round =>
      clear HI0
      obtain ⟨k, hk, hk1, rfl, HI⟩ := hrel
      have hk0 : (0 : Int) ≤ (k : Int) := Int.natCast_nonneg _
      by_cases hlt : k < l.length
      · have hlt1 : (k : Int) < (l.length : Int) := by omega
        have hlt2 : decide ((k : Int) < (l.length : Int)) = true := decide_eq_true hlt1
        by_cases hk4 : k < 40
        · have hk5 : (k : Int) < 40 := by omega
          obtain ⟨bk, off, hA, hbk, c0⟩ := (HR_l.out.below (Nat.le_refl _) HI.out.b).at_ (k := 4) (fun _ => rfl) (by omega) hlt
          have x1 : wr.cell? ⟨bk, off + k * 4 + 1, none⟩ = some (.int .i64 l[k]!.i) := c0 1 _ rfl
          have x3 : wr.cell? ⟨bk, off + k * 4 + 3, none⟩ = some (.string l[k]!.data) := c0 3 _ rfl
          have HAE := Lib.hid hA
          rw [hA]
          clear hA
          obtain ⟨x, hx⟩ : ∃ x, x = l[k]! := ⟨_, rfl⟩
          rw [← hx] at x1 x3
          clear hx c0
          obtain ⟨xk, xi, xn, xd⟩ := x
          simp only at x1 x3
          by_cases hbig : xd.size ≤ 200
          · have hbig2 : ¬ (xd.size : Int) > 200 := by omega
            obtain ⟨L, wv, hL, hw0, hw1, hS⟩ := HI.out.h
            have HSB := Lib.hid hS
            have HLL := Lib.hid hL
            have HW := Lib.hid (And.intro hw0 hw1)
            clear hL hS hw0 hw1
            have HBK := Lib.hid (block_still wr.drew xd (by omega))
            have CW := Lib.hid (write_any wr.drew sb g cp L (calm wv) HSB.out.drew xi (blk xd) ⟨HW.out.1, by have := HW.out.2; show wv ≤ 1000000; omega⟩)
            obtain ⟨X0, hX0⟩ : ∃ X0, X0 = blk xd := ⟨_, rfl⟩
            rw [← hX0] at HBK CW
            clear hX0
            go_wp2_with fail
            refine wp_region_still_tail 12 (by kernel_rfl) (by kernel_rfl) ?_
            simp only [List.take_succ_cons, List.take_zero, List.drop_succ_cons, List.drop_zero]
            iterate 11 still_step
            still_call HBK.out
            refine wpStill_nil ?_
            go_wp2_with fail
            refine CW.out.mono ?_
            rintro e w2 ⟨rfl, hs2, hk2⟩
            have HI2 : Hid (TI W sb g cp 9 (k + 1) w2) := Lib.hid (HI.out.drew.put HLL.out HW.out.1 HW.out.2 xi X0 hk2 hs2)
            clear hs2 hk2 CW HBK x1 x3
            go_wp2_with fail
            go_roundw
            case rel => exact ⟨k + 1, hlt, hk4, by go_num, HI2⟩
            case measure => simp [intOf]; omega
          · have hbig2 : (xd.size : Int) > 200 := by omega
            have HB := Lib.hid HI.out.b
            go_wp2_with fail
            go_ret
            exact ⟨rfl, HB.out⟩
        · have hk5 : ¬ (k : Int) < 40 := by omega
          obtain rfl : k = 40 := by omega
          have hk6 : ((40 : Nat) : Int) = 40 := rfl
          go_wp2_with fail
          go_meet
          exact HI
      · have hlt1 : ¬ (k : Int) < (l.length : Int) := by omega
        have hlt2 : decide ((k : Int) < (l.length : Int)) = false := decide_eq_false hlt1
        have HI4 : Hid (TI W sb g cp 9 40 wr) := Lib.hid (HI.out.more hk1)
        go_wp2_with fail
        go_meet
        exact HI4
  case rest =>
  clear HI0
  have HI := hcut
  clear hcut
  clear hl1 hl2 hn1 hn2 CN
  obtain ⟨Ls, wvs, hL, hw0, hw1, hS⟩ := HI.out.h
  have HSB := Lib.hid hS
  have HLL := Lib.hid hL
  have HW := Lib.hid (And.intro hw0 hw1)
  have HB3 := Lib.hid (And.intro HI.out.b HI.out.l)
  clear hL hS HI hw0 hw1
  obtain ⟨w3, hw3⟩ : ∃ w3, w3 = wc := ⟨_, rfl⟩
  rw [← hw3] at HSB HB3 ⊢
  clear hw3
  go_wp2_with fail
  refine (copy_any w3 sb g cp Ls _ HSB.out).mono ?_
  rintro e w4 ⟨sc, gc, cc, rfl, hs, hk, g1, g2⟩
  have HC4 := Lib.hid hs
  have HS4 := Lib.hid (HSB.out.below hk)
  have HB4 := Lib.hid (HB3.out.1.trans (hk.mono HB3.out.1.size))
  have HNE : Hid (sb ≠ sc ∧ sb ≠ gc ∧ g ≠ sc ∧ g ≠ gc) := Lib.hid (by have h1 := HSB.out.lt; have h2 := HSB.out.ltg; exact ⟨by omega, by omega, by omega, by omega⟩)
  have HL4 : Hid (W.heap.size ≤ sc ∧ W.heap.size ≤ gc) := Lib.hid (by have := HB3.out.1.size; exact ⟨by omega, by omega⟩)
  clear hs hk g1 g2 HSB HB3
  obtain ⟨WA, hWA⟩ : ∃ WA : ByteArray, (⟨Ls.flatten.toArray⟩ : ByteArray) = WA := ⟨_, rfl⟩
  have HWA := Lib.hid hWA
  clear hWA
  go_wp2_with fail
  refine (bytes_any w4 sc gc cc Ls _ HC4.out).mono ?_
  rintro e w5 ⟨rfl, hb⟩
  rw [HWA.out]
  have HC5 := Lib.hid (HC4.out.below hb)
  have HS5 := Lib.hid (HS4.out.below hb)
  have HB5 := Lib.hid (HB4.out.trans (hb.mono HB4.out.size))
  clear hb HC4 HS4 HB4
  go_wp2_with fail
  refine (bytes_any w5 sb g cp Ls _ HS5.out).mono ?_
  rintro e w6 ⟨rfl, hb⟩
  rw [HWA.out]
  have HC6 := Lib.hid (HC5.out.below hb)
  have HS6 := Lib.hid (HS5.out.below hb)
  have HB6 := Lib.hid (HB5.out.trans (hb.mono HB5.out.size))
  clear hb HC5 HS5 HB5
  go_wp2_with fail
  refine (writes_any w6 sc gc cc Ls _ HC6.out).mono ?_
  rintro e wd ⟨rfl, hw⟩
  subst hw
  go_wp2_with fail
  refine (writes_any w6 sb g cp Ls _ HS6.out).mono ?_
  rintro e wd ⟨rfl, hw⟩
  subst hw
  go_wp2_with fail
  refine (bytes_any w6 sb g cp Ls _ HS6.out).mono ?_
  rintro e w7 ⟨rfl, hb⟩
  rw [HWA.out]
  have HJ0 : Hid (TJ W sb g cp Ls wvs sc gc cc 9 0 w7) := Lib.hid ⟨⟨HB6.out.trans (hb.mono HB6.out.size), ⟨Ls, wvs, HLL.out, HW.out.1, by have := HW.out.2; omega, HC6.out.below hb⟩, HL4.out⟩, HS6.out.below hb, HNE.out⟩
  clear hb HC6 HS6 HB6 HL4 HNE
  go_upto_block 2 with fail
  go_cut [10] from 69 to 98 (fun _ wx => Hid (TJ W sb g cp Ls wvs sc gc cc 9 40 wx))
  case first =>
    go_wp2_with fail
    go_loopw [10] (fun i wr => ∃ k : Nat, k ≤ l2.length ∧ k ≤ 40 ∧ i = .int .i64 (k : Int) ∧ Hid (TJ W sb g cp Ls wvs sc gc cc 9 k wr)) (fun i _ => 40 - (intOf i).toNat)
    case atStart => exact ⟨0, Nat.zero_le _, Nat.zero_le _, rfl, HJ0⟩
    case round =>
      clear HJ0
      obtain ⟨k, hk, hk1, rfl, HI⟩ := hrel
      have hk0 : (0 : Int) ≤ (k : Int) := Int.natCast_nonneg _
      by_cases hlt : k < l2.length
      · have hlt1 : (k : Int) < (l2.length : Int) := by omega
        have hlt2 : decide ((k : Int) < (l2.length : Int)) = true := decide_eq_true hlt1
        by_cases hk4 : k < 40
        · have hk5 : (k : Int) < 40 := by omega
          obtain ⟨bk, off, hA, hbk, c0⟩ := (HR_l2.out.below (Nat.le_refl _) HI.out.b).at_ (k := 4) (fun _ => rfl) (by omega) hlt
          have x1 : wr.cell? ⟨bk, off + k * 4 + 1, none⟩ = some (.int .i64 l2[k]!.i) := c0 1 _ rfl
          have x3 : wr.cell? ⟨bk, off + k * 4 + 3, none⟩ = some (.string l2[k]!.data) := c0 3 _ rfl
          have HAE := Lib.hid hA
          rw [hA]
          clear hA
          obtain ⟨x, hx⟩ : ∃ x, x = l2[k]! := ⟨_, rfl⟩
          rw [← hx] at x1 x3
          clear hx c0
          obtain ⟨xk, xi, xn, xd⟩ := x
          simp only at x1 x3
          by_cases hbig : xd.size ≤ 200
          · have hbig2 : ¬ (xd.size : Int) > 200 := by omega
            obtain ⟨L, wv, hL, hw0, hw1, hS⟩ := HI.out.h
            have HSB := Lib.hid hS
            have HLL := Lib.hid hL
            have HW := Lib.hid (And.intro hw0 hw1)
            clear hL hS hw0 hw1
            have HBK := Lib.hid (block_still wr.drew xd (by omega))
            have CW := Lib.hid (write_any wr.drew sc gc cc L (calm wv) HSB.out.drew xi (blk xd) ⟨HW.out.1, by have := HW.out.2; show wv ≤ 1000000; omega⟩)
            obtain ⟨X0, hX0⟩ : ∃ X0, X0 = blk xd := ⟨_, rfl⟩
            rw [← hX0] at HBK CW
            clear hX0
            go_wp2_with fail
            refine wp_region_still_tail 12 (by kernel_rfl) (by kernel_rfl) ?_
            simp only [List.take_succ_cons, List.take_zero, List.drop_succ_cons, List.drop_zero]
            iterate 11 still_step
            still_call HBK.out
            refine wpStill_nil ?_
            go_wp2_with fail
            refine CW.out.mono ?_
            rintro e w2 ⟨rfl, hs2, hk2⟩
            have HI2 : Hid (TJ W sb g cp Ls wvs sc gc cc 9 (k + 1) w2) := Lib.hid (HI.out.drew.put HLL.out HW.out.1 HW.out.2 xi X0 hk2 hs2)
            clear hs2 hk2 CW HBK x1 x3
            go_wp2_with fail
            go_roundw
            case rel => exact ⟨k + 1, hlt, hk4, by go_num, HI2⟩
            case measure => simp [intOf]; omega
          · have hbig2 : (xd.size : Int) > 200 := by omega
            have HB := Lib.hid HI.out.b
            go_wp2_with fail
            go_ret
            exact ⟨rfl, HB.out⟩
        · have hk5 : ¬ (k : Int) < 40 := by omega
          obtain rfl : k = 40 := by omega
          have hk6 : ((40 : Nat) : Int) = 40 := rfl
          go_wp2_with fail
          go_meet
          exact HI
      · have hlt1 : ¬ (k : Int) < (l2.length : Int) := by omega
        have hlt2 : decide ((k : Int) < (l2.length : Int)) = false := decide_eq_false hlt1
        have HI4 : Hid (TJ W sb g cp Ls wvs sc gc cc 9 40 wr) := Lib.hid (HI.out.more hk1)
        go_wp2_with fail
        go_meet
        exact HI4
  case rest =>
  clear HJ0
  have HI := hcut
  clear hcut
  obtain ⟨w8, hw8⟩ : ∃ w8, w8 = wc := ⟨_, rfl⟩
  rw [← hw8] at HI ⊢
  clear hw8
  go_wp2_with fail
  refine (bytes_any w8 sb g cp Ls _ HI.out.s).mono ?_
  rintro e w9 ⟨rfl, hb⟩
  rw [HWA.out]
  have HBF := Lib.hid (HI.out.b.trans (hb.mono HI.out.b.size))
  clear hb
  go_wp2_with fail
  go_ret
  exact ⟨rfl, HBF.out⟩

theorem own : ownKnob Try.prog.godebug = none := by kernel_rfl
set_option maxRecDepth 100000 in
theorem lifted (os : Os) (started : os.Started) (H : Type) (enc : TypeId × Value → H) :
    ReturnsInHanded {} Try.checked os 8 .any (Rows.storeApartSpec.pre6 enc Try.prog Try.f8 Rows.storeApartRow.domain false) (Rows.storeApartSpec.post enc Try.prog Try.f8 false true false false) := by
  refine returnsInHanded_of_change_sized (C := Try.checked) own started (by kernel_rfl) Try.func8
    (ChangeSpec.witness6 (enc := enc) (C := Try.checked) false ⟨#[], #[.slice none 0 0, .slice none 0 0], []⟩ 8 (by kernel_rfl) (by kernel_rfl) (by kernel_rfl) (by kernel_rfl)) ?_
  intro W base args ds gs before hval0 hW _ hsz0 _
  have hsz : (DataW.weightsEach Try.prog (Try.f8.params.toList ++ Rows.storeApartSpec.plain.varTypes Try.prog) (ds ++ gs)).all (· ≤ reachBytes) = true := hsz0
  have hval : ∀ (j : Nat) t v, Try.f8.params[j]? = some t → args[j]? = some v → Value.okWide Try.prog W .any base t v := hval0
  have hW' := hW
  obtain ⟨p, q, hA0, hV, rfl, _, _⟩ := hW
  have hA : DataW.TrodAll enc Try.prog W 0 (fun _ => true) true Try.f8.params.toList args.toList ds p := hA0
  rw [Try.params8] at hA hval hsz
  obtain ⟨v0, vs0, d0, ds0, p0, q0, hargs, rfl, rfl, h0, r0⟩ := trodAll_cons hA
  obtain ⟨v1, vs1, d1, ds1, p1, q1, e1, rfl, rfl, h1, r1⟩ := trodAll_cons r0
  obtain ⟨rfl, rfl, rfl⟩ := trodAll_nil r1
  subst e1
  obtain rfl : args = #[v0, v1] := by cases args; simp_all
  obtain ⟨rfl, rfl⟩ := trodVars_none hV
  have hw0 : Wt Try.prog 57 d0 := Wt.of hsz (j := 0) rfl rfl
  obtain ⟨A0, c0, l0, rfl, hr0, hg0⟩ := open_sas (hval 0 _ v0 rfl rfl) h0 hw0
  have hw1 : Wt Try.prog 57 d1 := Wt.of hsz (j := 1) rfl rfl
  obtain ⟨A1, c1, l1, rfl, hr1, hg1⟩ := open_sas (hval 1 _ v1 rfl rfl) h1 hw1
  clear hA0 hval0 hsz0
  simp only [List.append_nil] at hW'
  have hlt0 := fun x hx => hW'.lt x hx
  refine (walk W A0 c0 l0 A1 c1 l1 hr0 hr1).mono fun e W' ⟨he2, hg⟩ => ?_
  subst he2
  have hargs := (trodAll_cons_mk (Below.trod progLaid (by kernel_rfl) (of_decide_eq_true (by kernel_rfl)) h0 hg (fun x hx => hlt0 x (List.mem_append_left _ hx))) (trodAll_cons_mk (Below.trod progLaid (by kernel_rfl) (of_decide_eq_true (by kernel_rfl)) h1 hg (fun x hx => hlt0 x (List.mem_append_right _ (hx)))) (trodAll_mk0 (enc := enc) (P := Try.prog) (w := W'))))
  simp only [List.append_nil] at hargs
  exact ⟨_, rfl, _, _, _, [], p0 ++ (p1), [], hW', trodAll_cons_mk (shut_bool Try.underlying4 _) trodAll_mk0, hargs, rfl, hg.frame _, fun h => by cases h⟩

theorem proved : Rows.StoreApartSaid :=
  OpenClaim.holds_of_wide 8 Try.f8 rfl rfl rfl rfl rfl rfl rfl ⟨rfl, rfl, rfl, rfl, rfl⟩ rfl rfl rfl rfl rfl (by kernel_rfl) Try.func8 (by kernel_rfl)
    (of_decide_eq_true (by kernel_rfl)) (by unfold Func.isWrapper; first | (rw [if_pos (by decide +kernel)]; kernel_rfl) | (rw [if_neg (by decide +kernel)]; exact ⟨rfl, rfl⟩))
    (fun os started H enc _ => lifted os started H enc)
end Go.Proofs.Ytcipgjelbnmdiaa.SApart
