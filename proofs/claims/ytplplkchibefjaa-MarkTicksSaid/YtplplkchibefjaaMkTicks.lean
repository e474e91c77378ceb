/-
  MarkTicks answers true, whatever graph and whatever steps it is given.
-/
import Derived.Test.YtplplkchibefjaaMkV
namespace Go.Proofs.Ytplplkchibefjaa.M5.Ticks
open Go.RowKit Go.Shelf Go.Deep Go.Joins Go.ChangeShapes Go.WideShapes Go.Proofs.Ytplplkchibefjaa.B Go.Proofs.Ytplplkchibefjaa.M5

def iterO (l : List Mk) : Nat → List Mk
  | 0 => l
  | k + 1 => (iterO l k).map oldM
theorem iter_fits {n : Nat} {l : List Mk} (h : fitsB n l = true) : ∀ k, fitsB n (iterO l k) = true
  | 0 => h
  | k + 1 => fits_old (iter_fits h k)
theorem iter_slack {n : Nat} {l : List Mk} {s : Nat} (h : fitsB n l = true) (hs : slackL l = (s : Int)) (h1 : s ≤ 100) : ∀ k, k ≤ s → slackL (iterO l k) = ((s : Int) - (k : Int))
  | 0, _ => by rw [iterO, hs]; omega
  | k + 1, hk => by
    have ih := iter_slack h hs h1 k (by omega)
    rw [iterO, slack_tick (iter_fits h k) (by omega) (by omega), ih]; omega
set_option maxRecDepth 100000 in
set_option maxHeartbeats 4000000 in
theorem walk (w : World) (EA TA A : Option Addr) (ec tc c : Nat) (es : List Ev) (ts : List Ti) (bs : List UInt8) (he : Row w EA (es.flatMap evC)) (ht : Row w TA (ts.flatMap tiC)) (hr : Row w A (bs.flatMap u8C)) (hbl : bs.length ≤ 140737488351232) :
    Calls Try.prog 11 #[.agg #[.slice EA es.length ec, .slice TA ts.length tc], .slice A bs.length c] w fun e w' => e = .returned (.bool true) ∧ Below w.heap.size w w' := by
  have L0 := Lib.hid (LF.start w #[.slice EA es.length ec, .slice TA ts.length tc])
  have AWK := Lib.hid (awake_any (w.alloc (.cells #[.slice EA es.length ec, .slice TA ts.length tc] 32)))
  have HE := Lib.hid he
  have HT := Lib.hid ht
  have HR := Lib.hid hr
  clear he ht hr
  go_enter Try.func11, Try.ntmps11
  go_wp2_with fail
  refine AWK.out.mono ?_
  rintro e w1 ⟨rfl, hb⟩
  have L1 := Lib.hid (L0.out.call hb)
  clear hb AWK L0
  obtain ⟨c0, c1⟩ := L1.out.cells
  have ll := L1.out.lt
  go_wp2_with fail
  refine (large_any EA TA es.length ec ts.length tc w1).mono ?_
  rintro e w2 ⟨rfl, hb⟩
  have L2 := Lib.hid (L1.out.call hb)
  clear hb L1 c0 c1 ll
  obtain ⟨c0, c1⟩ := L2.out.cells
  have ll := L2.out.lt
  cases hlg : largeB es.length ts.length with
  | true =>
    go_wp2_with fail
    go_ret
    exact ⟨rfl, L2.out.b⟩
  | false =>
    obtain ⟨hel, htl⟩ := large_no hlg
    clear hlg
    have R := Lib.hid (run_any w2 EA TA A ec tc c es ts bs (HE.out.below (Nat.le_refl _) L2.out.b) (HT.out.below (Nat.le_refl _) L2.out.b) (HR.out.below (Nat.le_refl _) L2.out.b) hel htl hbl)
    have hfit := fits_run ts es bs
    have HLn := Lib.hid (runL_len ts es bs)
    generalize runL ts es bs = m at *
    go_wp2_with fail
    refine R.out.mono ?_
    rintro e w3 ⟨v3, rfl, ho, hb⟩
    have L3 := Lib.hid (L2.out.call hb)
    have O3 := Lib.hid (own_base ho (Nat.le_of_lt ll))
    obtain ⟨va, vc, rfl⟩ := own_slice ho
    clear hb ho R L2 c0 c1 ll
    obtain ⟨c0, c1⟩ := L3.out.cells
    have ll := L3.out.lt
    have S := Lib.hid (slack_any w3 EA TA va es.length ec ts.length tc vc m (Row.of_own O3.out) (by rw [HLn.out]; omega))
    rw [HLn.out, slackI_fits hfit] at S
    have hs0 := slack_nonneg hfit
    obtain ⟨s, hs⟩ : ∃ s : Nat, slackL m = (s : Int) := ⟨(slackL m).toNat, by omega⟩
    rw [hs] at S
    clear hs0
    have HFit := Lib.hid hfit
    have HS := Lib.hid hs
    clear hfit hs
    have hsn : (0 : Int) ≤ (s : Int) := Int.natCast_nonneg _
    go_wp2_with fail
    refine S.out.mono ?_
    rintro e w4 ⟨rfl, hb⟩
    have L4 := Lib.hid (L3.out.call hb)
    have O4 := Lib.hid (own_below O3.out hb)
    clear hb S L3 O3 c0 c1 ll
    obtain ⟨c0, c1⟩ := L4.out.cells
    have ll := L4.out.lt
    by_cases h100 : s ≤ 100
    · go_wp2_with fail
      clear c0 c1 ll
      go_loopw [5, 9] (fun v i wr => ∃ k : Nat, k ≤ s ∧ i = .int .i64 k ∧ Hid (wr.ownsRow w.heap.size 77 3 v es.length ((iterO m k).flatMap mkC)) ∧ Hid (LF w #[.slice EA es.length ec, .slice TA ts.length tc] wr)) (fun _ i _ => s - (intOf i).toNat)
      case atStart => exact ⟨0, Nat.zero_le _, rfl, O4, L4⟩
      case round =>
        clear O4 L4
        obtain ⟨k, hk, rfl, HO, HL⟩ := hrel
        have hk0 : (0 : Int) ≤ (k : Int) := Int.natCast_nonneg _
        have hfk := iter_fits HFit.out k
        have hsk := iter_slack HFit.out HS.out h100 k hk
        have hlk := fits_len hfk
        obtain ⟨c0, c1⟩ := HL.out.cells
        have ll := HL.out.lt
        have HNx : Hid (iterO m (k + 1) = (iterO m k).map oldM) := Lib.hid rfl
        have hfk' := iter_fits HFit.out (k + 1)
        obtain ⟨va, vc, rfl⟩ := own_slice HO.out
        by_cases hlt : k < s
        · have hsk' := iter_slack HFit.out HS.out h100 (k + 1) hlt
          have T := Lib.hid (tick_any wr EA TA va es.length ec ts.length tc vc (iterO m k) (Row.of_own HO.out) (by omega))
          have hte := tick_yes hfk (by omega)
          rw [hlk] at T
          have HTe := Lib.hid hte
          have HLk := Lib.hid hlk
          have HSk' := Lib.hid hsk'
          have HFk' := Lib.hid hfk'
          clear hfk hsk hlk hte hsk' hfk'
          generalize iterO m k = mk at *
          go_wp2_with fail
          refine T.out.mono ?_
          rintro e w5 ⟨hb, v5, rfl, h5, -⟩
          have HO5 := Lib.hid (h5 HTe.out)
          rw [HTe.out, HLk.out] at *
          rw [← HNx.out] at HO5
          have L5 := Lib.hid (HL.out.call hb)
          have hz := Nat.le_of_lt ll
          clear hb h5 T c0 c1 ll HL HO HTe
          obtain ⟨c0, c1⟩ := L5.out.cells
          have ll := L5.out.lt
          obtain ⟨v5a, v5c, rfl⟩ := own_slice HO5.out
          have S := Lib.hid (slack_any w5 EA TA v5a es.length ec ts.length tc v5c (iterO m (k + 1)) (Row.of_own HO5.out) (by rw [fits_len HFk'.out]; omega))
          rw [fits_len HFk'.out, slackI_fits HFk'.out, HSk'.out] at S
          have e9 : ((s : Int) - (k : Int) - 1) = ((s : Int) - ((k + 1 : Nat) : Int)) := by omega
          rw [← e9] at S
          have HO6 := Lib.hid (own_base HO5.out hz)
          clear e9
          go_wp2_with fail
          refine S.out.mono ?_
          rintro e w6 ⟨rfl, hb⟩
          have L6 := Lib.hid (L5.out.call hb)
          have HO7 := Lib.hid (own_below HO6.out hb)
          clear hb S c0 c1 ll L5 HO5 HO6
          go_wp2_with fail
          go_roundw
          case rel => exact ⟨k + 1, hlt, by go_num, HO7, L6⟩
          case measure => simp [intOf]; omega
        · obtain rfl : k = s := by omega
          have T := Lib.hid (tick_any wr EA TA va es.length ec ts.length tc vc (iterO m k) (Row.of_own HO.out) (by omega))
          have Ac := fun (W : World) (h : W.ownsRow w.heap.size 77 3 (.slice va es.length vc) es.length ((iterO m k).flatMap mkC)) => Lib.hid (acc_any W EA TA va es.length ec ts.length tc vc (iterO m k) (Row.of_own h) (by omega))
          have hs0 : slackL (iterO m k) = 0 := by omega
          have hte := tick_due hfk hs0
          have hac : accB es.length (iterO m k) = false := by unfold accB; rw [slack_zero hs0]; simp
          rw [hlk] at T
          rw [hlk, hac] at Ac
          have HTe := Lib.hid hte
          have HAc := Lib.hid Ac
          clear hfk hsk hlk hte hfk' hs0 hac Ac
          go_wp2_with fail
          refine T.out.mono ?_
          rintro e w5 ⟨hb, v5, rfl, -, h5⟩
          have h5' := h5 (by rw [HTe.out]; decide)
          subst h5'
          rw [HTe.out]
          have L5 := Lib.hid (HL.out.call hb)
          have HO5 := Lib.hid (own_below HO.out hb)
          have B5 := HAc.out w5 HO5.out
          clear hb h5 T c0 c1 ll HL HO HTe
          obtain ⟨c0, c1⟩ := L5.out.cells
          have ll := L5.out.lt
          go_wp2_with fail
          refine B5.out.mono ?_
          rintro e w6 ⟨rfl, hb⟩
          have L6 := Lib.hid (L5.out.call hb)
          clear hb
          go_wp2_with fail
          go_ret
          exact ⟨rfl, L6.out.b⟩
    · have T := Lib.hid (tick_any w4 EA TA va es.length ec ts.length tc vc m (Row.of_own O4.out) (by rw [HLn.out]; omega))
      have hte := tick_yes HFit.out (by rw [HS.out]; omega)
      rw [HLn.out] at T
      have HTe := Lib.hid hte
      clear hte
      go_wp2_with fail
      refine T.out.mono ?_
      rintro e w5 ⟨hb, v5, rfl, -, -⟩
      rw [HTe.out]
      have L5 := Lib.hid (L4.out.call hb)
      clear hb T c0 c1 ll
      go_wp2_with fail
      go_ret
      exact ⟨rfl, L5.out.b⟩

theorem own : ownKnob Try.prog.godebug = none := by kernel_rfl
set_option maxRecDepth 100000 in
theorem lifted (os : Os) (started : os.Started) (H : Type) (enc : TypeId × Value → H) :
    ReturnsInHanded {} Try.checked os 11 .any (Rows.markTicksSpec.pre6 enc Try.prog Try.f11 Rows.markTicksRow.domain false) (Rows.markTicksSpec.post enc Try.prog Try.f11 false true false false) := by
  refine returnsInHanded_of_change_sized (C := Try.checked) own started (by kernel_rfl) Try.func11
    (ChangeSpec.witness6 (enc := enc) (C := Try.checked) false ⟨#[], #[.agg #[.slice none 0 0, .slice none 0 0], .slice none 0 0], []⟩ 8 (by kernel_rfl) (by kernel_rfl) (by kernel_rfl) (by kernel_rfl)) ?_
  intro W base args ds gs before hval0 hW _ hsz0 _
  have hsz : (DataW.weightsEach Try.prog (Try.f11.params.toList ++ Rows.markTicksSpec.plain.varTypes Try.prog) (ds ++ gs)).all (· ≤ reachBytes) = true := hsz0
  have hval : ∀ (j : Nat) t v, Try.f11.params[j]? = some t → args[j]? = some v → Value.okWide Try.prog W .any base t v := hval0
  have hW' := hW
  obtain ⟨p, q, hA0, hV, rfl, _, _⟩ := hW
  have hA : DataW.TrodAll enc Try.prog W 0 (fun _ => true) true Try.f11.params.toList args.toList ds p := hA0
  rw [Try.params11] at hA hval hsz
  obtain ⟨v0, vs0, d0, ds0, p0, q0, hargs, rfl, rfl, h0, r0⟩ := trodAll_cons hA
  obtain ⟨v1, vs1, d1, ds1, p1, q1, e1, rfl, rfl, h1, r1⟩ := trodAll_cons r0
  obtain ⟨rfl, rfl, rfl⟩ := trodAll_nil r1
  subst e1
  obtain rfl : args = #[v0, v1] := by cases args; simp_all
  obtain ⟨rfl, rfl⟩ := trodVars_none hV
  have hw0 : Wt Try.prog 32 d0 := Wt.of hsz (j := 0) rfl rfl
  obtain ⟨EA, TA, ec, tc, es, ts, rfl, he, ht, hel, htl, hge, hgt⟩ := open_flat (hval 0 _ v0 rfl rfl) h0 hw0
  have hw1 : Wt Try.prog 75 d1 := Wt.of hsz (j := 1) rfl rfl
  obtain ⟨A1, c1, l1, rfl, hr1, hl1⟩ := open_u8s (hval 1 _ v1 rfl rfl) h1 hw1
  clear hA0 hval0 hsz0
  simp only [List.append_nil] at hW'
  have hlt0 := fun x hx => hW'.lt x hx
  refine (walk W EA TA A1 ec tc c1 es ts l1 he ht hr1 hl1).mono fun e W' ⟨he2, hg⟩ => ?_
  subst he2
  have hargs := (trodAll_cons_mk (Below.trod progLaid (by kernel_rfl) (of_decide_eq_true (by kernel_rfl)) h0 hg (fun x hx => hlt0 x (List.mem_append_left _ hx))) (trodAll_cons_mk (Below.trod progLaid (by kernel_rfl) (of_decide_eq_true (by kernel_rfl)) h1 hg (fun x hx => hlt0 x (List.mem_append_right _ (hx)))) (trodAll_mk0 (enc := enc) (P := Try.prog) (w := W'))))
  simp only [List.append_nil] at hargs
  exact ⟨_, rfl, _, _, _, [], p0 ++ (p1), [], hW', trodAll_cons_mk (shut_bool Try.underlying4 _) trodAll_mk0, hargs, rfl, hg.frame _, fun h => by cases h⟩

theorem proved : Rows.MarkTicksSaid :=
  OpenClaim.holds_of_wide 11 Try.f11 rfl rfl rfl rfl rfl rfl rfl ⟨rfl, rfl, rfl, rfl, rfl⟩ rfl rfl rfl rfl rfl (by kernel_rfl) Try.func11 (by kernel_rfl)
    (of_decide_eq_true (by kernel_rfl)) (by unfold Func.isWrapper; first | (rw [if_pos (by decide +kernel)]; kernel_rfl) | (rw [if_neg (by decide +kernel)]; exact ⟨rfl, rfl⟩))
    (fun os started H enc _ => lifted os started H enc)
end Go.Proofs.Ytplplkchibefjaa.M5.Ticks
