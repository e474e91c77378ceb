/-
  RingTells answers true, whatever net and whatever point it is given: rings, reach, loops, an order, the longest chain, and the net the other way round are as the document's own functions have them.
-/
import Derived.Test.YtaagpnepkjkfoaaRpZ
namespace Go.Proofs.Ytaagpnepkjkfoaa.R6.Tells
open Go.RowKit Go.Shelf Go.Deep Go.Joins Go.ChangeShapes Go.WideShapes Go.Proofs.Ytaagpnepkjkfoaa.B Go.Proofs.Ytaagpnepkjkfoaa.R6 Go.Proofs.Ytaagpnepkjkfoaa.R6.T

def atB (l : List Int) (i : Int) (m : Nat) : Bool := (l.take m).any (eqP i)
theorem atB_next {l : List Int} {i : Int} {m : Nat} (hm : m < l.length) : atB l i (m + 1) = (atB l i m || eqP i l[m]!) := by
  unfold atB
  rw [take_next hm, List.any_append]; simp
set_option maxRecDepth 100000 in
set_option maxHeartbeats 8000000 in
theorem walk (W : World) (A : Option Addr) (c : Nat) (n : NetL) (hn : Nt W A n) (hl : n.length ≤ 70368744177663) (i : Int) :
    Calls Try.prog 3 #[.slice A n.length c, .int .i64 i] W fun e w' => e = .returned (.bool true) ∧ Below W.heap.size W w' := by
  have NN0 := Lib.hid hn
  clear hn
  go_enter Try.func3, Try.ntmps3
  go_wp2_with fail
  refine (awake_any W).mono ?_
  rintro e w1 ⟨rfl, hb⟩
  have BB1 := Lib.hid hb
  clear hb
  go_wp2_with fail
  refine (sm_large (NN0.out.below BB1.out) hl).mono ?_
  rintro e w2 ⟨b, rfl, rfl, hsm⟩
  cases b with
  | true =>
    go_wp2_with fail
    go_ret
    exact ⟨rfl, BB1.out⟩
  | false =>
    have SM := Lib.hid (hsm rfl)
    have hl24 := SM.out.l
    clear hsm
    go_wp2_with fail
    have NN1 := Lib.hid (NN0.out.below BB1.out)
    refine (sm_order NN1.out SM.out).mono ?_
    rintro e w3 ⟨a3, k3, rfl, hR, hb⟩
    have RA3 := Lib.hid hR
    have NN3 := Lib.hid (NN1.out.below hb)
    have BB3 := Lib.hid (BB1.out.trans (hb.mono BB1.out.size))
    have CO := fun (Wx : World) (h : Nt Wx A n) => order_doc Wx A c n h SM.out
    have HOL : Hid ((ordI n).length ≤ 1000000 ∧ ((ordI n).map fun j : Nat => (j : Int)).length = (ordI n).length) := Lib.hid ⟨by
      unfold ordI
      split
      · simp
      · rename_i h
        have := (ord_ok (leadsB_no (by simpa using h)) n.length (Nat.le_refl _)).2
        omega, List.length_map _⟩
    have HCO := Lib.hid CO
    have HCL := Lib.hid (fun (Wx : World) (h : Nt Wx A n) => sm_long (W := Wx) (c := c) h SM.out)
    have HDL := Lib.hid (fun (Wx : World) (h : Nt Wx A n) => longest_doc Wx A c n h SM.out)
    clear hR hb NN1 BB1 CO
    go_wp2_with fail
    generalize ordE n = oe at *
    generalize ordI n = ol at *
    refine (HCO.out _ NN3.out).mono ?_
    rintro e w4 ⟨a4, k4, rfl, hR, hb⟩
    have RB4 := Lib.hid hR
    have RA4 := Lib.hid (row_call RA3.out hb)
    have NN4 := Lib.hid (NN3.out.below hb)
    have BB4 := Lib.hid (BB3.out.trans (hb.mono BB3.out.size))
    clear hR hb NN3 BB3 RA3 HCO
    go_wp2_with fail
    generalize longI n = lz at *
    refine (HCL.out _ NN4.out).mono ?_
    rintro e w5 ⟨rfl, hb⟩
    have RA5 := Lib.hid (row_call RA4.out hb)
    have RB5 := Lib.hid (row_call RB4.out hb)
    have NN5 := Lib.hid (NN4.out.below hb)
    have BB5 := Lib.hid (BB4.out.trans (hb.mono BB4.out.size))
    clear hb NN4 BB4 RA4 RB4 HCL
    go_wp2_with fail
    refine (HDL.out _ NN5.out).mono ?_
    rintro e w6 ⟨rfl, hb⟩
    have RA6 := Lib.hid (row_call RA5.out hb)
    have RB6 := Lib.hid (row_call RB5.out hb)
    have NN6 := Lib.hid (NN5.out.below hb)
    have BB6 := Lib.hid (BB5.out.trans (hb.mono BB5.out.size))
    clear hb NN5 BB5 RA5 RB5 HDL
    have HRL := Lib.hid (reachN_len SM.out i)
    have HCR := Lib.hid (fun (Wx : World) (h : Nt Wx A n) => sm_reach (W := Wx) (c := c) h SM.out i)
    have HDR := Lib.hid (reach_doc w6 A c n NN6.out SM.out i)
    have HLO := Lib.hid (show loopsB n i = atB (reachN n i) i (reachN n i).length from by unfold atB loopsB reachN; rw [List.take_length])
    go_wp2_with fail
    generalize reachN n i = R at *
    refine HDR.out.mono ?_
    rintro e w7 ⟨a7, k7, rfl, hR, hb⟩
    have RC7 := Lib.hid hR
    have RA7 := Lib.hid (row_call RA6.out hb)
    have RB7 := Lib.hid (row_call RB6.out hb)
    have NN7 := Lib.hid (NN6.out.below hb)
    have BB7 := Lib.hid (BB6.out.trans (hb.mono BB6.out.size))
    clear hb hR NN6 BB6 RA6 RB6 HDR
    have hR24 := HRL.out
    go_wp2_with fail
    go_loopw [14, 46] (fun lv j wr => ∃ m : Nat, m ≤ R.length ∧ j = .int .i64 m ∧ lv = .bool (atB R i m) ∧ w7 = wr) (fun _ j _ => R.length - (intOf j).toNat)
    case atStart => exact ⟨0, Nat.zero_le _, rfl, rfl, rfl⟩
    case round =>
      obtain ⟨m, hm, rfl, rfl, rfl⟩ := hrel
      by_cases hmt : m < R.length
      · have hm0 : (0 : Int) ≤ (m : Int) := Int.natCast_nonneg _
        have hm1 : (m : Int) < (R.length : Int) := by omega
        have HNX := Lib.hid (atB_next (i := i) hmt)
        obtain ⟨b1, off1, rfl, hb1, hc1⟩ := row_at RC7.out hmt
        cases hq : atB R i m with
        | true =>
          rw [hq, Bool.true_or] at HNX
          clear hq
          go_wp2_with fail
          go_roundw
          case rel => exact ⟨m + 1, hmt, by go_num, by rw [HNX.out], trivial⟩
          case measure => simp [intOf]; omega
        | false =>
          rw [hq, Bool.false_or] at HNX
          clear hq
          generalize R[m]! = x at *
          go_wp2_with fail
          go_roundw
          case rel => exact ⟨m + 1, hmt, by go_num, by rw [HNX.out]; rfl, trivial⟩
          case measure => simp [intOf]; omega
      · obtain rfl : m = R.length := by omega
        rw [← HLO.out]
        have HLP := Lib.hid (fun (Wx : World) (h : Nt Wx A n) => sm_loops (W := Wx) (c := c) h SM.out i)
        generalize loopsB n i = lp at *
        have hr24 := ringsN_len SM.out
        have HRR := Lib.hid (ringsN_rows SM.out)
        have HCG := Lib.hid (fun (Wx : World) (h : Nt Wx A n) => sm_rings (W := Wx) (c := c) h SM.out)
        have HDG := Lib.hid (fun (Wx : World) (h : Nt Wx A n) => rings_doc Wx A c n h SM.out)
        generalize ringsN n = rn at *
        have HTL := Lib.hid (turn_len n)
        have HTR := Lib.hid (SM.out.turn.r2 (m := 1000000) (by omega))
        have HCT := Lib.hid (fun (Wx : World) (h : Nt Wx A n) => sm_turn (W := Wx) (c := c) h SM.out)
        have HDT := Lib.hid (fun (Wx : World) (h : Nt Wx A n) => turn_doc Wx A c n h SM.out)
        generalize turnL n = tn at *
        go_wp2_with fail
        refine (HCG.out _ NN7.out).mono ?_
        rintro e w8 ⟨a8, k8, rfl, hR, hb⟩
        have GA8 := Lib.hid hR
        have RA8 := Lib.hid (row_call RA7.out hb)
        have RB8 := Lib.hid (row_call RB7.out hb)
        have RC8 := Lib.hid (row_call RC7.out hb)
        have NN8 := Lib.hid (NN7.out.below hb)
        have BB8 := Lib.hid (BB7.out.trans (hb.mono BB7.out.size))
        clear hb hR NN7 BB7 RA7 RB7 RC7 HCG
        go_wp2_with fail
        refine (HDG.out _ NN8.out).mono ?_
        rintro e w9 ⟨a9, k9, rfl, hR, hb⟩
        have GB9 := Lib.hid hR
        have RA9 := Lib.hid (row_call RA8.out hb)
        have RB9 := Lib.hid (row_call RB8.out hb)
        have RC9 := Lib.hid (row_call RC8.out hb)
        have GA9 := Lib.hid (GA8.out.below hb)
        have NN9 := Lib.hid (NN8.out.below hb)
        have BB9 := Lib.hid (BB8.out.trans (hb.mono BB8.out.size))
        clear hb hR NN8 BB8 RA8 RB8 RC8 GA8 HDG
        go_wp2_with fail
        refine (nt_all GA9.out GB9.out (by omega) HRR.out).mono ?_
        rintro e v1 ⟨rfl, hb⟩
        have RA11 := Lib.hid (row_call RA9.out hb)
        have RB11 := Lib.hid (row_call RB9.out hb)
        have RC11 := Lib.hid (row_call RC9.out hb)
        have NN11 := Lib.hid (NN9.out.below hb)
        have BB11 := Lib.hid (BB9.out.trans (hb.mono BB9.out.size))
        clear hb NN9 BB9 RA9 RB9 RC9 GA9 GB9 HRR
        go_wp2_with fail
        have CS := fun (Wx : World) (h1 : Row Wx a3 ((ol.map fun j : Nat => (j : Int)).map (Value.int .i64))) (h2 : Row Wx a4 ((ol.map fun j : Nat => (j : Int)).map (Value.int .i64))) => row_same (c := k3) (d := k4) h1 h2 (by rw [HOL.out.2]; exact HOL.out.1)
        rw [HOL.out.2] at CS
        refine (CS _ RA11.out RB11.out).mono ?_
        rintro e v2 ⟨rfl, hb⟩
        have RC12 := Lib.hid (row_call RC11.out hb)
        have NN12 := Lib.hid (NN11.out.below hb)
        have BB12 := Lib.hid (BB11.out.trans (hb.mono BB11.out.size))
        clear hb NN11 BB11 RA11 RB11 RC11 CS
        go_wp2_with fail
        refine (HCR.out _ NN12.out).mono ?_
        rintro e v3 ⟨a13, k13, rfl, hR, hb⟩
        have RD13 := Lib.hid hR
        have RC13 := Lib.hid (row_call RC12.out hb)
        have NN13 := Lib.hid (NN12.out.below hb)
        have BB13 := Lib.hid (BB12.out.trans (hb.mono BB12.out.size))
        clear hb hR NN12 BB12 RC12 HCR
        go_wp2_with fail
        refine (row_same RD13.out RC13.out (by omega)).mono ?_
        rintro e v4 ⟨rfl, hb⟩
        have NN14 := Lib.hid (NN13.out.below hb)
        have BB14 := Lib.hid (BB13.out.trans (hb.mono BB13.out.size))
        clear hb NN13 BB13 RD13 RC13
        go_wp2_with fail
        refine (HLP.out _ NN14.out).mono ?_
        rintro e v5 ⟨rfl, hb⟩
        have NN15 := Lib.hid (NN14.out.below hb)
        have BB15 := Lib.hid (BB14.out.trans (hb.mono BB14.out.size))
        clear hb NN14 BB14 HLP
        go_wp2_with fail
        refine (HCT.out _ NN15.out).mono ?_
        rintro e v6 ⟨a16, k16, rfl, hR, hb⟩
        have GA16 := Lib.hid hR
        have NN16 := Lib.hid (NN15.out.below hb)
        have BB16 := Lib.hid (BB15.out.trans (hb.mono BB15.out.size))
        clear hb hR NN15 BB15 HCT
        go_wp2_with fail
        refine (HDT.out _ NN16.out).mono ?_
        rintro e v7 ⟨a17, k17, rfl, hR, hb⟩
        have GB17 := Lib.hid hR
        have GA17 := Lib.hid (GA16.out.below hb)
        have BB17 := Lib.hid (BB16.out.trans (hb.mono BB16.out.size))
        clear hb hR NN16 BB16 GA16 HDT
        go_wp2_with fail
        have CT := fun (Wx : World) (h1 : Nt Wx a16 tn) (h2 : Nt Wx a17 tn) => nt_all (c := k16) (d := k17) h1 h2 (by rw [HTL.out]; omega) HTR.out
        rw [HTL.out] at CT
        refine (CT _ GA17.out GB17.out).mono ?_
        rintro e v8 ⟨rfl, hb⟩
        have BB18 := Lib.hid (BB17.out.trans (hb.mono BB17.out.size))
        clear hb BB17 GA17 GB17 CT
        go_wp2_with fail
        go_ret
        exact ⟨rfl, BB18.out⟩

theorem own : ownKnob Try.prog.godebug = none := by kernel_rfl
set_option maxRecDepth 100000 in
theorem lifted (os : Os) (started : os.Started) (H : Type) (enc : TypeId × Value → H) :
    ReturnsInHanded {} Try.checked os 3 .any (Rows.ringTellsSpec.pre6 enc Try.prog Try.f3 Rows.ringTellsRow.domain false) (Rows.ringTellsSpec.post enc Try.prog Try.f3 false true false false) := by
  refine returnsInHanded_of_change_sized (C := Try.checked) own started (by kernel_rfl) Try.func3
    (ChangeSpec.witness6 (enc := enc) (C := Try.checked) false ⟨#[], #[.slice none 0 0, .int .i64 0], []⟩ 8 (by kernel_rfl) (by kernel_rfl) (by kernel_rfl) (by kernel_rfl)) ?_
  intro W base args ds gs before hval0 hW _ hsz0 _
  have hsz : (DataW.weightsEach Try.prog (Try.f3.params.toList ++ Rows.ringTellsSpec.plain.varTypes Try.prog) (ds ++ gs)).all (· ≤ reachBytes) = true := hsz0
  have hval : ∀ (j : Nat) t v, Try.f3.params[j]? = some t → args[j]? = some v → Value.okWide Try.prog W .any base t v := hval0
  have hW' := hW
  obtain ⟨p, q, hA0, hV, rfl, _, _⟩ := hW
  have hA : DataW.TrodAll enc Try.prog W 0 (fun _ => true) true Try.f3.params.toList args.toList ds p := hA0
  rw [Try.params3] at hA hval hsz
  obtain ⟨v0, vs0, d0, ds0, p0, q0, hargs, rfl, rfl, h0, r0⟩ := trodAll_cons hA
  obtain ⟨v1, vs1, d1, ds1, p1, q1, e1, rfl, rfl, h1, r1⟩ := trodAll_cons r0
  obtain ⟨rfl, rfl, rfl⟩ := trodAll_nil r1
  subst e1
  obtain rfl : args = #[v0, v1] := by cases args; simp_all
  obtain ⟨rfl, rfl⟩ := trodVars_none hV
  have hw0 : Wt Try.prog 23 d0 := Wt.of hsz (j := 0) rfl rfl
  obtain ⟨A0, c0, n0, rfl, hN0, hl0⟩ := open_nt (hval 0 _ v0 rfl rfl) h0 hw0
  obtain ⟨i1, rfl, hw1⟩ := open_int (hval 1 _ v1 rfl rfl) h1
  clear hA0 hval0 hsz0
  simp only [List.append_nil] at hW'
  have hlt0 := fun x hx => hW'.lt x hx
  refine (walk W A0 c0 n0 hN0 hl0 i1).mono fun e W' ⟨he2, hg⟩ => ?_
  subst he2
  have hargs := (trodAll_cons_mk (Below.trod progLaid (by kernel_rfl) (of_decide_eq_true (by kernel_rfl)) h0 hg (fun x hx => hlt0 x (List.mem_append_left _ hx))) (trodAll_cons_mk (Below.trod progLaid (by kernel_rfl) (of_decide_eq_true (by kernel_rfl)) h1 hg (fun x hx => hlt0 x (List.mem_append_right _ (hx)))) (trodAll_mk0 (enc := enc) (P := Try.prog) (w := W'))))
  simp only [List.append_nil] at hargs
  exact ⟨_, rfl, _, _, _, [], p0 ++ (p1), [], hW', trodAll_cons_mk (shut_bool Try.underlying4 _) trodAll_mk0, hargs, rfl, hg.frame _, fun h => by cases h⟩

theorem proved : Rows.RingTellsSaid :=
  OpenClaim.holds_of_wide 3 Try.f3 rfl rfl rfl rfl rfl rfl rfl ⟨rfl, rfl, rfl, rfl, rfl⟩ rfl rfl rfl rfl rfl (by kernel_rfl) Try.func3 (by kernel_rfl)
    (of_decide_eq_true (by kernel_rfl)) (by unfold Func.isWrapper; first | (rw [if_pos (by decide +kernel)]; kernel_rfl) | (rw [if_neg (by decide +kernel)]; exact ⟨rfl, rfl⟩))
    (fun os started H enc _ => lifted os started H enc)
end Go.Proofs.Ytaagpnepkjkfoaa.R6.Tells
