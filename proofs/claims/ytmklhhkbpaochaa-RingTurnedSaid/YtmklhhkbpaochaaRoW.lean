/-
  RingTurned answers true, whatever net it is given.
-/
import Derived.Test.YtmklhhkbpaochaaRoU
namespace Go.Proofs.Ytmklhhkbpaochaa.R6.Turned
open Go.RowKit Go.Shelf Go.Deep Go.Joins Go.ChangeShapes Go.WideShapes Go.Proofs.Ytmklhhkbpaochaa.B Go.Proofs.Ytmklhhkbpaochaa.R6

set_option maxRecDepth 100000 in
set_option maxHeartbeats 8000000 in
theorem walk (W : World) (A : Option Addr) (c : Nat) (n : NetL) (hn : Nt W A n) (hl : n.length ≤ 70368744177663) :
    Calls Try.prog 6 #[.slice A n.length c] W fun e w' => e = .returned (.bool true) ∧ Below W.heap.size W w' := by
  have NN0 := Lib.hid hn
  clear hn
  go_enter Try.func6, Try.ntmps6
  go_wp2_with fail
  refine (awake_any W).mono ?_
  rintro e w1 ⟨rfl, hb⟩
  have NN1 := Lib.hid (NN0.out.below hb)
  have BB1 := Lib.hid hb
  clear hb NN0
  go_wp2_with fail
  refine (sm_large NN1.out hl).mono ?_
  rintro e w2 ⟨b, rfl, rfl, hsm⟩
  cases b with
  | true =>
    go_wp2_with fail
    go_ret
    exact ⟨rfl, BB1.out⟩
  | false =>
    have SM := Lib.hid (hsm rfl)
    have hl24 := SM.out.l
    clear hsm
    go_wp2_with fail
    refine (sm_turn NN1.out SM.out).mono ?_
    rintro e w3 ⟨a3, k3, rfl, hT, hb⟩
    have NN3 := Lib.hid (NN1.out.below hb)
    have BB3 := Lib.hid (BB1.out.trans (hb.mono BB1.out.size))
    have TT3 := Lib.hid hT
    clear hb NN1 BB1 hT
    go_wp2_with fail
    have ST := Lib.hid SM.out.turn
    have HTL := Lib.hid (turn_len n)
    have C4 := fun (W : World) (h : Nt W a3 (turnL n)) => sm_turn (c := k3) h ST.out
    rw [turn_len] at C4
    refine (C4 _ TT3.out).mono ?_
    rintro e w4 ⟨a4, k4, rfl, hU, hb⟩
    have NN4 := Lib.hid (NN3.out.below hb)
    have BB4 := Lib.hid (BB3.out.trans (hb.mono BB3.out.size))
    have TT4 := Lib.hid (TT3.out.below hb)
    have UU4 := Lib.hid hU
    clear C4 hb NN3 BB3 TT3 hU
    go_wp2_with fail
    refine (sm_long NN4.out SM.out).mono ?_
    rintro e w5 ⟨rfl, hb⟩
    have NN5 := Lib.hid (NN4.out.below hb)
    have BB5 := Lib.hid (BB4.out.trans (hb.mono BB4.out.size))
    have TT5 := Lib.hid (TT4.out.below hb)
    have UU5 := Lib.hid (UU4.out.below hb)
    clear hb NN4 BB4 TT4 UU4
    go_wp2_with fail
    have C6 := fun (W : World) (h : Nt W a3 (turnL n)) => sm_long (c := k3) h ST.out
    rw [turn_len, longI_turn, ordE_turn] at C6
    generalize longI n = z1 at *
    generalize ordE n = z2 at *
    refine (C6 _ TT5.out).mono ?_
    rintro e w6 ⟨rfl, hb⟩
    have NN6 := Lib.hid (NN5.out.below hb)
    have BB6 := Lib.hid (BB5.out.trans (hb.mono BB5.out.size))
    have TT6 := Lib.hid (TT5.out.below hb)
    have UU6 := Lib.hid (UU5.out.below hb)
    clear C6 hb NN5 BB5 TT5 UU5
    go_wp2_with fail
    refine (sm_rings NN6.out SM.out).mono ?_
    rintro e w7 ⟨a7, k7, rfl, hR, hb⟩
    have NN7 := Lib.hid (NN6.out.below hb)
    have BB7 := Lib.hid (BB6.out.trans (hb.mono BB6.out.size))
    have TT7 := Lib.hid (TT6.out.below hb)
    have UU7 := Lib.hid (UU6.out.below hb)
    have RR7 := Lib.hid hR
    clear hb NN6 BB6 TT6 UU6 hR
    go_wp2_with fail
    have C8 := fun (W : World) (h : Nt W a3 (turnL n)) => sm_rings (c := k3) h ST.out
    rw [turn_len, ringsN_turn] at C8
    refine (C8 _ TT7.out).mono ?_
    rintro e w8 ⟨a8, k8, rfl, hR, hb⟩
    have NN8 := Lib.hid (NN7.out.below hb)
    have BB8 := Lib.hid (BB7.out.trans (hb.mono BB7.out.size))
    have TT8 := Lib.hid (TT7.out.below hb)
    have UU8 := Lib.hid (UU7.out.below hb)
    have RR8 := Lib.hid (RR7.out.below hb)
    have SS8 := Lib.hid hR
    clear C8 hb NN7 BB7 TT7 UU7 RR7 hR
    go_wp2_with fail
    have hr24 := ringsN_len SM.out
    refine (nt_all RR8.out SS8.out (by omega) (ringsN_rows SM.out)).mono ?_
    rintro e w9 ⟨rfl, hb⟩
    have NN9 := Lib.hid (NN8.out.below hb)
    have BB9 := Lib.hid (BB8.out.trans (hb.mono BB8.out.size))
    have TT9 := Lib.hid (TT8.out.below hb)
    have UU9 := Lib.hid (UU8.out.below hb)
    have RR9 := Lib.hid (RR8.out.below hb)
    have SS9 := Lib.hid (SS8.out.below hb)
    clear hb NN8 BB8 TT8 UU8 RR8 SS8
    go_wp2_with fail
    have SU := Lib.hid ST.out.turn
    clear TT9 RR9 SS9 hr24
    go_loopw [60] (fun i wr => ∃ k : Nat, k ≤ n.length ∧ i = .int .i64 k ∧ Hid (Nt wr A n) ∧ Hid (Nt wr a4 (turnL (turnL n))) ∧ Hid (Below W.heap.size W wr)) (fun i _ => n.length - (intOf i).toNat)
    case atStart => exact ⟨0, Nat.zero_le _, rfl, NN9, UU9, BB9⟩
    case round =>
      clear NN9 UU9 BB9
      obtain ⟨k, hk, rfl, NN, UU, BB⟩ := hrel
      by_cases hlt : k < n.length
      · have hk0 : (0 : Int) ≤ (k : Int) := Int.natCast_nonneg _
        have hk1 : (k : Int) < (n.length : Int) := by omega
        have CU := fun (W : World) (h : Nt W a4 (turnL (turnL n))) => sm_reach (c := k4) h SU.out (k : Int)
        rw [turn_len, turn_len, reachN_turn2] at CU
        have CN := fun (W : World) (h : Nt W A n) => sm_reach (c := c) h SM.out (k : Int)
        have hrl := reachN_len SM.out (k : Int)
        generalize reachN n (k : Int) = R at *
        go_wp2_with fail
        refine (CN _ NN.out).mono ?_
        rintro e v1 ⟨a5, k5, rfl, hR, hb⟩
        have RR1 := Lib.hid hR
        have NN1 := Lib.hid (NN.out.below hb)
        have UU1 := Lib.hid (UU.out.below hb)
        have BB1 := Lib.hid (BB.out.trans (hb.mono BB.out.size))
        clear NN UU BB hR hb
        go_wp2_with fail
        refine (CU _ UU1.out).mono ?_
        rintro e v2 ⟨a6, k6, rfl, hR, hb⟩
        have SS2 := Lib.hid hR
        have RR2 := Lib.hid (row_call RR1.out hb)
        have NN2 := Lib.hid (NN1.out.below hb)
        have UU2 := Lib.hid (UU1.out.below hb)
        have BB2 := Lib.hid (BB1.out.trans (hb.mono BB1.out.size))
        clear NN1 UU1 BB1 RR1 hR hb
        go_wp2_with fail
        refine (row_same RR2.out SS2.out (by omega)).mono ?_
        rintro e v3 ⟨rfl, hb⟩
        have NN3 := Lib.hid (NN2.out.below hb)
        have UU3 := Lib.hid (UU2.out.below hb)
        have BB3 := Lib.hid (BB2.out.trans (hb.mono BB2.out.size))
        clear NN2 UU2 BB2 RR2 SS2 hb CN CU
        go_wp2_with fail
        go_roundw
        case rel => exact ⟨k + 1, hlt, by go_num, NN3, UU3, BB3⟩
        case measure => simp [intOf]; omega
      · obtain rfl : k = n.length := by omega
        go_wp2_with fail
        go_ret
        exact ⟨rfl, BB.out⟩

theorem own : ownKnob Try.prog.godebug = none := by kernel_rfl
set_option maxRecDepth 100000 in
theorem lifted (os : Os) (started : os.Started) (H : Type) (enc : TypeId × Value → H) :
    ReturnsInHanded {} Try.checked os 6 .any (Rows.ringTurnedSpec.pre6 enc Try.prog Try.f6 Rows.ringTurnedRow.domain false) (Rows.ringTurnedSpec.post enc Try.prog Try.f6 false true false false) := by
  refine returnsInHanded_of_change_sized (C := Try.checked) own started (by kernel_rfl) Try.func6
    (ChangeSpec.witness6 (enc := enc) (C := Try.checked) false ⟨#[], #[.slice none 0 0], []⟩ 8 (by kernel_rfl) (by kernel_rfl) (by kernel_rfl) (by kernel_rfl)) ?_
  intro W base args ds gs before hval0 hW _ hsz0 _
  have hsz : (DataW.weightsEach Try.prog (Try.f6.params.toList ++ Rows.ringTurnedSpec.plain.varTypes Try.prog) (ds ++ gs)).all (· ≤ reachBytes) = true := hsz0
  have hval : ∀ (j : Nat) t v, Try.f6.params[j]? = some t → args[j]? = some v → Value.okWide Try.prog W .any base t v := hval0
  have hW' := hW
  obtain ⟨p, q, hA0, hV, rfl, _, _⟩ := hW
  have hA : DataW.TrodAll enc Try.prog W 0 (fun _ => true) true Try.f6.params.toList args.toList ds p := hA0
  rw [Try.params6] at hA hval hsz
  obtain ⟨v0, vs0, d0, ds0, p0, q0, hargs, rfl, rfl, h0, r0⟩ := trodAll_cons hA
  obtain ⟨rfl, rfl, rfl⟩ := trodAll_nil r0
  obtain rfl : args = #[v0] := by cases args; simp_all
  obtain ⟨rfl, rfl⟩ := trodVars_none hV
  have hw0 : Wt Try.prog 23 d0 := Wt.of hsz (j := 0) rfl rfl
  obtain ⟨A0, c0, n0, rfl, hN0, hl0⟩ := open_nt (hval 0 _ v0 rfl rfl) h0 hw0
  clear hA0 hval0 hsz0
  simp only [List.append_nil] at hW'
  have hlt0 := fun x hx => hW'.lt x hx
  refine (walk W A0 c0 n0 hN0 hl0).mono fun e W' ⟨he2, hg⟩ => ?_
  subst he2
  have hargs := (trodAll_cons_mk (Below.trod progLaid (by kernel_rfl) (of_decide_eq_true (by kernel_rfl)) h0 hg (fun x hx => hlt0 x (hx))) (trodAll_mk0 (enc := enc) (P := Try.prog) (w := W')))
  simp only [List.append_nil] at hargs
  exact ⟨_, rfl, _, _, _, [], p0, [], hW', trodAll_cons_mk (shut_bool Try.underlying4 _) trodAll_mk0, hargs, rfl, hg.frame _, fun h => by cases h⟩

theorem proved : Rows.RingTurnedSaid :=
  OpenClaim.holds_of_wide 6 Try.f6 rfl rfl rfl rfl rfl rfl rfl ⟨rfl, rfl, rfl, rfl, rfl⟩ rfl rfl rfl rfl rfl (by kernel_rfl) Try.func6 (by kernel_rfl)
    (of_decide_eq_true (by kernel_rfl)) (by unfold Func.isWrapper; first | (rw [if_pos (by decide +kernel)]; kernel_rfl) | (rw [if_neg (by decide +kernel)]; exact ⟨rfl, rfl⟩))
    (fun os started H enc _ => lifted os started H enc)
end Go.Proofs.Ytmklhhkbpaochaa.R6.Turned
