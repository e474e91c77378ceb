/-
  HeapAges: what waits long comes at last: whatever the step, the first one's Base, and what comes then; no condition.
-/
import Derived.Test.YteakneekoogmmaaHbaj
namespace Go.Proofs.Yteakneekoogmmaa.HAges
open Go.RowKit Go.Shelf Go.Deep Go.Joins Go.ChangeShapes Go.WideShapes Go.Proofs.Yteakneekoogmmaa.B Go.Proofs.Yteakneekoogmmaa.HP Go.Proofs.Yteakneekoogmmaa.OP
attribute [local go_sem] Oper.semAt_some
theorem ins_head {s : Int} {x y : It} {T : List It} (h : ahB s x y = true) : insI s (x :: T) y = x :: insI s T y := by
  unfold insI
  simp [h]
/-- The first stays the first. -/
theorem first_ah {s b v k : Int} {y : It} (hs : 1 ≤ s) (hv : 0 ≤ v) (hk : 0 < k) (hy : y.base ≤ 9) (hd : y.since = 7 + (9 - b) * s + v) (hi : y.id = k) : ahB s ⟨0, b, 7⟩ y = true := by
  rw [ah_iff]
  unfold wt
  have h1 : y.base * s ≤ 9 * s := Int.mul_le_mul_of_nonneg_right hy (by omega)
  have h2 : (9 - b) * s = 9 * s - b * s := Int.sub_mul 9 b s
  simp only
  rw [hd, h2, hi]
  omega
set_option maxRecDepth 100000 in
set_option maxHeartbeats 4000000 in
theorem walk (W : World) (st ba : UInt8) (A : Option Addr) (c : Nat) (l : List UInt8) (hr : Row W A (l.flatMap u8C)) :
    Calls Try.prog 5 #[.int .u8 (st.toNat : Int), .int .u8 (ba.toNat : Int), .slice A l.length c] W fun e W' => e = .returned (.bool true) ∧ Below W.heap.size W W' := by
  have CA := Lib.hid (awake_any W)
  have hst := st.toNat_lt
  have hba := ba.toNat_lt
  have HR := Lib.hid hr
  clear hr
  go_enter Try.func5, Try.ntmps5
  go_wp2_with fail
  refine CA.out.mono ?_
  rintro e W1 ⟨rfl, hb1⟩
  have HB1 := Lib.hid hb1
  clear hb1 CA
  go_wp2_with fail
  obtain ⟨s, hs⟩ : ∃ s : Int, s = (st.toNat : Int) + 1 := ⟨_, rfl⟩
  have hs1 : 1 ≤ s := by omega
  have hs2 : s ≤ 256 := by omega
  rw [← hs]
  have HS1 := Lib.hid hs
  clear hs hst
  have CN := Lib.hid (new_yes W1 s hs1 (by omega) (fun _ => False))
  refine CN.out.mono ?_
  rintro e W2 ⟨rfl, hb2, hw2⟩
  obtain ⟨hb, hhb⟩ : ∃ hb, hb = W1.heap.size + 1 := ⟨_, rfl⟩
  rw [← hhb] at hw2 ⊢
  have HH : Hid (HS ⟨W1, fun _ => False⟩ W2 hb s []) := Lib.hid ⟨⟨_, [], List.Perm.refl _, fun j h1 h2 => (by simp at h2), hw2⟩, List.Pairwise.nil⟩
  clear hw2 hhb CN hb2
  go_wp2_with fail
  obtain ⟨b, hbv⟩ : ∃ b : Int, b = (ba.toNat : Int) % 10 := ⟨_, rfl⟩
  have hbb : 0 ≤ b ∧ b ≤ 9 := by omega
  rw [← hbv]
  clear hbv hba
  obtain ⟨hbb0, hbb9⟩ := hbb
  have CP := Lib.hid (hs_put _ W2 hb s [] HH.out ⟨0, b, 7⟩ (show (Lit.int .i64 0).wf = true by decide))
  have hok0 : okB ⟨0, b, 7⟩ = true := by unfold okB; rw [decide_eq_true_eq]; exact ⟨hbb0, hbb9, show (0 : Int) ≤ 7 by omega, show (7 : Int) ≤ 1099511627776 by omega⟩
  rw [show putE [] ⟨0, b, 7⟩ = 0 from by unfold putE; rw [hok0]; rfl, if_pos rfl, show insI s [] ⟨0, b, 7⟩ = [⟨0, b, 7⟩] from rfl] at CP
  refine CP.out.mono ?_
  rintro e W3 ⟨rfl, hn⟩
  replace HH := Lib.hid hn
  have hm0 : 0 ≤ (9 - b) * s := Int.mul_nonneg (by omega) (by omega)
  have hm1 : (9 - b) * s ≤ 2304 := by
    have h1 : (9 - b) * s ≤ 9 * s := Int.mul_le_mul_of_nonneg_right (by omega) (by omega)
    omega
  clear hn CP hok0
  go_wp2_with fail
  obtain ⟨d, hd⟩ : ∃ d, d = (9 - b) * s := ⟨_, rfl⟩
  rw [← hd] at hm0 hm1 ⊢
  have HD := Lib.hid hd
  clear hd
  go_loopw [12] (fun i wr => ∃ (k : Nat) (T : List It), k ≤ l.length ∧ k ≤ 100 ∧ i = .int .i64 (k : Int) ∧ T.length = k ∧ Hid (∀ y ∈ T, 1 ≤ y.id ∧ y.id ≤ (k : Int)) ∧ Hid (HS ⟨W1, fun _ => False⟩ wr hb s (⟨0, b, 7⟩ :: T))) (fun i _ => 100 - (intOf i).toNat)
  case atStart => exact ⟨0, [], Nat.zero_le _, Nat.zero_le _, rfl, rfl, Lib.hid (fun y hy => by cases hy), HH⟩
  case round =>
    clear HH
    obtain ⟨k, T, hk, hk1, rfl, hT, HI, HH⟩ := hrel
    by_cases hlt : k < l.length
    · have hlt1 : (k : Int) < (l.length : Int) := by omega
      by_cases hl2 : k < 100
      · have hl3 : (k : Int) < 100 := by omega
        have hk0 : (0 : Int) ≤ (k : Int) := Int.natCast_nonneg _
        have hbw : Below W.heap.size W wr.drew := by
          have h9 := HH.out.k
          have h8 : Below W1.heap.size W1 wr := ⟨h9.os, h9.tape, h9.output, h9.size, fun q hq => h9.block q hq (fun h => h)⟩
          exact below_draws (HB1.out.trans (h8.mono HB1.out.size)) 1
        obtain ⟨bk, off, hA, hbk, c0⟩ := (HR.out.below (Nat.le_refl _) hbw).at_ (k := 1) (fun _ => rfl) (by omega) hlt
        have c0 := c0 0 _ rfl
        rw [Nat.add_zero, Nat.mul_one] at c0
        obtain rfl : A = some ⟨bk, off, none⟩ := hA
        have hv := l[k]!.toNat_lt
        obtain ⟨v, hvv⟩ : ∃ v : Nat, v = l[k]!.toNat := ⟨_, rfl⟩
        rw [← hvv] at c0 hv
        have CP := Lib.hid (hs_put _ wr.drew hb s _ (HH.out.call (below_draws (Below.refl _ _) 1)) ⟨(k : Int) + 1, (v : Int) % 10, 7 + d + v⟩ (show (Lit.int .i64 ((k : Int) + 1)).wf = true from WalkArith.wf_i64 (by omega)))
        clear hvv hbw
        go_upto_region 14 with fail
        refine wp_region_still_tail 17 mixed (by kernel_rfl) ?_
        simp only [List.take_succ_cons, List.take_zero, List.drop_succ_cons, List.drop_zero]
        iterate 17 still_step
        refine wpStill_nil ?_
        change wpList _ _ _ _ _ wr.drew
        have hbase : 0 ≤ (v : Int) % 10 ∧ (v : Int) % 10 ≤ 9 := by omega
        have hokn : okB ⟨(k : Int) + 1, (v : Int) % 10, 7 + d + v⟩ = true := by unfold okB; rw [decide_eq_true_eq]; exact ⟨hbase.1, hbase.2, show (0 : Int) ≤ 7 + d + (v : Int) by omega, show 7 + d + (v : Int) ≤ (1099511627776 : Int) by omega⟩
        have hno : HP.hasB (⟨0, b, 7⟩ :: T) ((k : Int) + 1) = false := by
          cases hq : HP.hasB (⟨0, b, 7⟩ :: T) ((k : Int) + 1) with
          | false => rfl
          | true =>
            obtain ⟨x, hx, hi⟩ := has_mem.1 hq
            rcases List.mem_cons.1 hx with rfl | hx
            · have : (0 : Int) = (k : Int) + 1 := hi
              omega
            · have := HI.out x hx
              omega
        have hp0 : putE (⟨0, b, 7⟩ :: T) ⟨(k : Int) + 1, (v : Int) % 10, 7 + d + v⟩ = 0 := by
          unfold putE
          rw [if_neg (by rw [hokn]; simp), if_neg (by rw [hno]; simp), if_neg (by rw [List.length_cons]; omega)]
        rw [hp0, if_pos rfl, ins_head (first_ah hs1 (Int.natCast_nonneg v) (by omega : (0 : Int) < (k : Int) + 1) hbase.2 (by rw [HD.out]) rfl)] at CP
        have HIN := Lib.hid (insI_perm s T ⟨(k : Int) + 1, (v : Int) % 10, 7 + d + v⟩)
        generalize insI s T ⟨(k : Int) + 1, (v : Int) % 10, 7 + d + v⟩ = T2 at *
        have hT2 : T2.length = k + 1 := by rw [HIN.out.length_eq, List.length_append, hT]; rfl
        have HI2 : Hid (∀ y ∈ T2, 1 ≤ y.id ∧ y.id ≤ ((k + 1 : Nat) : Int)) := Lib.hid (fun y hy => by
          have h1 := HIN.out.mem_iff.1 hy
          rw [List.mem_append, List.mem_singleton] at h1
          rcases h1 with h1 | rfl
          · have := HI.out y h1
            omega
          · exact ⟨show (1 : Int) ≤ (k : Int) + 1 by omega, show (k : Int) + 1 ≤ ((k + 1 : Nat) : Int) by omega⟩)
        clear HI hokn hno hp0 hbase
        go_wp2_with fail
        refine CP.out.mono ?_
        rintro e W4 ⟨rfl, hn⟩
        have HH4 := Lib.hid hn
        clear hn CP
        go_wp2_with fail
        go_roundw
        case rel => exact ⟨k + 1, T2, hlt, by omega, by simp, hT2, HI2, HH4⟩
        case measure => simp [intOf]; omega
      · have hl3 : ¬ (k : Int) < 100 := by omega
        have CK := Lib.hid (hs_peek _ wr hb s _ HH.out)
        go_wp2_with fail
        refine CK.out.mono ?_
        rintro e W4 ⟨rfl, hb4⟩
        have HF : Hid (Below W.heap.size W (W4.alloc (.cells #[.int .i64 0, .int .i64 b, .int .i64 7] 32))) := Lib.hid (by
          have h9 := HH.out.k
          have h8 : Below W1.heap.size W1 wr := ⟨h9.os, h9.tape, h9.output, h9.size, fun q hq => h9.block q hq (fun h => h)⟩
          have h7 := HB1.out.trans (h8.mono HB1.out.size)
          have h6 := h7.trans (hb4.mono h7.size)
          exact h6.alloc h6.size _)
        clear hb4
        go_wp2_with fail
        go_ret
        exact ⟨rfl, HF.out⟩
    · have hlt1 : ¬ (k : Int) < (l.length : Int) := by omega
      have CK := Lib.hid (hs_peek _ wr hb s _ HH.out)
      go_wp2_with fail
      refine CK.out.mono ?_
      rintro e W4 ⟨rfl, hb4⟩
      have HF : Hid (Below W.heap.size W (W4.alloc (.cells #[.int .i64 0, .int .i64 b, .int .i64 7] 32))) := Lib.hid (by
        have h9 := HH.out.k
        have h8 : Below W1.heap.size W1 wr := ⟨h9.os, h9.tape, h9.output, h9.size, fun q hq => h9.block q hq (fun h => h)⟩
        have h7 := HB1.out.trans (h8.mono HB1.out.size)
        have h6 := h7.trans (hb4.mono h7.size)
        exact h6.alloc h6.size _)
      clear hb4
      go_wp2_with fail
      go_ret
      exact ⟨rfl, HF.out⟩
theorem own : ownKnob Try.prog.godebug = none := by kernel_rfl
set_option maxRecDepth 100000 in
theorem lifted (os : Os) (started : os.Started) (H : Type) (enc : TypeId × Value → H) :
    ReturnsInHanded {} Try.checked os 5 .any (Rows.heapAgesSpec.pre6 enc Try.prog Try.f5 Rows.heapAgesRow.domain false) (Rows.heapAgesSpec.post enc Try.prog Try.f5 false true false false) := by
  refine returnsInHanded_of_change_sized (C := Try.checked) own started (by kernel_rfl) Try.func5
    (ChangeSpec.witness6 (enc := enc) (C := Try.checked) false ⟨#[], #[.int .u8 0, .int .u8 0, .slice none 0 0], []⟩ 8 (by kernel_rfl) (by kernel_rfl) (by kernel_rfl) (by kernel_rfl)) ?_
  intro W base args ds gs before hval0 hW _ hsz0 _
  have hsz : (DataW.weightsEach Try.prog (Try.f5.params.toList ++ Rows.heapAgesSpec.plain.varTypes Try.prog) (ds ++ gs)).all (· ≤ reachBytes) = true := hsz0
  have hval : ∀ (j : Nat) t v, Try.f5.params[j]? = some t → args[j]? = some v → Value.okWide Try.prog W .any base t v := hval0
  have hW' := hW
  obtain ⟨p, q, hA0, hV, rfl, _, _⟩ := hW
  have hA : DataW.TrodAll enc Try.prog W 0 (fun _ => true) true Try.f5.params.toList args.toList ds p := hA0
  rw [Try.params5] at hA hval hsz
  obtain ⟨v0, vs0, d0, ds0, p0, q0, hargs, rfl, rfl, h0, r0⟩ := trodAll_cons hA
  obtain ⟨v1, vs1, d1, ds1, p1, q1, e1, rfl, rfl, h1, r1⟩ := trodAll_cons r0
  obtain ⟨v2, vs2, d2, ds2, p2, q2, e2, rfl, rfl, h2, r2⟩ := trodAll_cons r1
  obtain ⟨rfl, rfl, rfl⟩ := trodAll_nil r2
  subst e2
  subst e1
  obtain rfl : args = #[v0, v1, v2] := by cases args; simp_all
  obtain ⟨rfl, rfl⟩ := trodVars_none hV
  obtain ⟨b0, rfl⟩ := open_u8 (hval 0 _ v0 rfl rfl) h0
  obtain ⟨b1, rfl⟩ := open_u8 (hval 1 _ v1 rfl rfl) h1
  have hw2 : Wt Try.prog 58 d2 := Wt.of hsz (j := 2) rfl rfl
  obtain ⟨A2, c2, l2, rfl, hr2, hl2⟩ := open_u8s (hval 2 _ v2 rfl rfl) h2 hw2
  clear hA0 hval0 hsz0
  simp only [List.append_nil] at hW'
  have hlt0 := fun x hx => hW'.lt x hx
  refine (walk W b0 b1 A2 c2 l2 hr2).mono fun e W' ⟨he2, hg⟩ => ?_
  subst he2
  have hargs := (trodAll_cons_mk (Below.trod progLaid (by kernel_rfl) (of_decide_eq_true (by kernel_rfl)) h0 hg (fun x hx => hlt0 x (List.mem_append_left _ hx))) (trodAll_cons_mk (Below.trod progLaid (by kernel_rfl) (of_decide_eq_true (by kernel_rfl)) h1 hg (fun x hx => hlt0 x (List.mem_append_right _ (List.mem_append_left _ hx)))) (trodAll_cons_mk (Below.trod progLaid (by kernel_rfl) (of_decide_eq_true (by kernel_rfl)) h2 hg (fun x hx => hlt0 x (List.mem_append_right _ (List.mem_append_right _ (hx))))) (trodAll_mk0 (enc := enc) (P := Try.prog) (w := W')))))
  simp only [List.append_nil] at hargs
  exact ⟨_, rfl, _, _, _, [], p0 ++ (p1 ++ (p2)), [], hW', trodAll_cons_mk (shut_bool Try.underlying4 _) trodAll_mk0, hargs, rfl, hg.frame _, fun h => by cases h⟩
theorem proved : Rows.HeapAgesSaid :=
  OpenClaim.holds_of_wide 5 Try.f5 rfl rfl rfl rfl rfl rfl rfl ⟨rfl, rfl, rfl, rfl, rfl⟩ rfl rfl rfl rfl rfl (by kernel_rfl) Try.func5 (by kernel_rfl)
    (of_decide_eq_true (by kernel_rfl)) (by unfold Func.isWrapper; first | (rw [if_pos (by decide +kernel)]; kernel_rfl) | (rw [if_neg (by decide +kernel)]; exact ⟨rfl, rfl⟩))
    (fun os started H enc _ => lifted os started H enc)
end Go.Proofs.Yteakneekoogmmaa.HAges
