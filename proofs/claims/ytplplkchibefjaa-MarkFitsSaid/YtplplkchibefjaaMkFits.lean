/-
  MarkFits answers true, whatever graph and whatever steps it is given.
-/
import Derived.Test.YtplplkchibefjaaMkV
import Derived.Test.YtplplkchibefjaaMkS
namespace Go.Proofs.Ytplplkchibefjaa.M5.Fits
open Go.RowKit Go.Shelf Go.Deep Go.Joins Go.ChangeShapes Go.WideShapes Go.Proofs.Ytplplkchibefjaa.B Go.Proofs.Ytplplkchibefjaa.M5

theorem LF.drewN {w W : World} {fl : Array Value} (h : LF w fl W) (n : Nat) : LF w fl (W.drewN n) := h.call (below_draws (Below.refl _ _) n)
theorem head_some {W : World} {B e z n c : Nat} {A : Option Addr} {xs : List Value} (h : W.ownsRow B e z (.slice A n c) n xs) (h0 : 0 < n) : ∃ g, A = some ⟨g, 0, none⟩ ∧ g < W.heap.size := by
  obtain ⟨g, cap, hv, _, hl⟩ := own_head h h0
  injection hv with h1 _ _
  exact ⟨g, h1, hl⟩
set_option maxRecDepth 100000 in
set_option maxHeartbeats 8000000 in
theorem walk (w : World) (EA TA A : Option Addr) (ec tc c : Nat) (es : List Ev) (ts : List Ti) (bs : List UInt8) (he : Row w EA (es.flatMap evC)) (ht : Row w TA (ts.flatMap tiC)) (hr : Row w A (bs.flatMap u8C)) (hbl : bs.length ≤ 140737488351232) :
    Calls Try.prog 9 #[.agg #[.slice EA es.length ec, .slice TA ts.length tc], .slice A bs.length c] w fun e w' => e = .returned (.bool true) ∧ Below w.heap.size w w' := by
  have L0 := Lib.hid (LF.start w #[.slice EA es.length ec, .slice TA ts.length tc])
  have AWK := Lib.hid (awake_any (w.alloc (.cells #[.slice EA es.length ec, .slice TA ts.length tc] 32)))
  have HE := Lib.hid he
  have HT := Lib.hid ht
  have HR := Lib.hid hr
  clear he ht hr
  go_enter Try.func9, Try.ntmps9
  go_wp2_with fail
  refine AWK.out.mono ?_
  rintro e w1 ⟨rfl, hb⟩
  have L1 := Lib.hid (L0.out.call hb)
  clear hb AWK L0
  obtain ⟨c0, c1⟩ := L1.out.cells
  have ll := L1.out.lt
  go_wp2_with fail
  refine (large_any EA TA es.length ec ts.length tc w1).mono ?_
  rintro e w2 ⟨rfl, hb⟩
  have L2 := Lib.hid (L1.out.call hb)
  clear hb L1 c0 c1 ll
  obtain ⟨c0, c1⟩ := L2.out.cells
  have ll := L2.out.lt
  cases hlg : largeB es.length ts.length with
  | true =>
    go_wp2_with fail
    go_ret
    exact ⟨rfl, L2.out.b⟩
  | false =>
    obtain ⟨hel, htl⟩ := large_no hlg
    clear hlg
    have R := Lib.hid (start_any w2 EA TA ec ts.length tc es (HE.out.below (Nat.le_refl _) L2.out.b) (by omega))
    go_wp2_with fail
    refine R.out.mono ?_
    rintro e w3 ⟨v3, rfl, ho3, hb⟩
    have L3 := Lib.hid (L2.out.call hb)
    have HO3 : Hid (w3.ownsRow w.heap.size 77 3 v3 es.length ((runK ts es bs 0).flatMap mkC)) := Lib.hid (own_base ho3 (Nat.le_of_lt ll))
    clear hb ho3 R L2 c0 c1 ll
    go_wp2_with fail
    go_loopw [5, 6] (fun v i wr => ∃ k : Nat, k ≤ bs.length ∧ k ≤ 60 ∧ i = .int .i64 k ∧ Hid (wr.ownsRow w.heap.size 77 3 v es.length ((runK ts es bs k).flatMap mkC)) ∧ Hid (LF w #[.slice EA es.length ec, .slice TA ts.length tc] wr)) (fun _ i _ => bs.length - (intOf i).toNat)
    case atStart => exact ⟨0, Nat.zero_le _, Nat.zero_le _, rfl, HO3, L3⟩
    case round =>
      clear HO3 L3
      obtain ⟨k, hk, hk6, rfl, HO, HL⟩ := hrel
      have hk0 : (0 : Int) ≤ (k : Int) := Int.natCast_nonneg _
      have HFit := Lib.hid (fits_runK ts es bs k)
      have hL := runK_len ts es bs k
      obtain ⟨va, vc, rfl⟩ := own_slice HO.out
      obtain ⟨c0, c1⟩ := HL.out.cells
      have ll := HL.out.lt
      have FT := Lib.hid (fits_any wr EA TA va es.length ec ts.length tc vc (runK ts es bs k) (Row.of_own HO.out) (by omega))
      rw [hL, HFit.out] at FT
      by_cases hlt : k < bs.length
      · by_cases h60 : k < 60
        · obtain ⟨b, off, rfl, hb, hc⟩ := HR.out.at_ (k := 1) (fun _ => rfl) (by omega) hlt
          have kb := hc 0 _ rfl
          rw [Nat.add_zero, Nat.mul_one] at kb
          have KB := Lib.hid kb
          clear kb hc
          have HNx := Lib.hid (runK_next (ts := ts) (es := es) hlt)
          generalize runK ts es bs k = L at *
          generalize bs[k]! = x at *
          have hx := x.toNat_lt
          have HLn := Lib.hid hL
          clear hL
          go_wp2_with fail
          refine FT.out.mono ?_
          rintro e w4 ⟨rfl, hb4⟩
          have L4 := Lib.hid (HL.out.call hb4)
          have O4 := Lib.hid (own_below HO.out hb4)
          have D := Lib.hid (do_any w4.drew EA TA va es.length ec tc vc ts L (x.toNat : Int) (HT.out.below (Nat.le_refl _) (L4.out.drew).b) (by omega) (Row.of_own O4.out.drew) (by rw [HLn.out]; omega))
          rw [HLn.out] at D
          clear hb4 FT HL HO c0 c1 ll
          have hwr : IntKind.i64.wrap ((x.toNat : Nat) : Int) = ((x.toNat : Nat) : Int) := IntWalk.i64_in _ (by omega)
          obtain ⟨xn, hxn⟩ : ∃ xn : Nat, xn = x.toNat := ⟨_, rfl⟩
          have HNs : Hid (stepR es.length ts L x = if doE es.length ts L (xn : Int) = 0 then doL ts L xn else if tickE es.length L = 0 then L.map oldM else L) := Lib.hid (by rw [hxn]; rfl)
          rw [← hxn] at KB D hwr hx
          clear hxn
          have kb := KB.out
          rw [← L4.out.b.cell (p := ⟨b, _, none⟩) hb] at kb
          have hl4 := L4.out.lt
          have hbz : b < w4.heap.size := by omega
          obtain ⟨c0, c1⟩ := L4.out.cells
          have Ld := Lib.hid L4.out.drew
          have Od := Lib.hid O4.out.drew
          go_wp2_with fail
          go_cut [7, 8] (fun s7 s8 wc => ∃ v : Value, s7 = v ∧ s8 = .int .i64 (doE es.length ts L (xn : Int)) ∧ Hid (doE es.length ts L (xn : Int) = 0 → wc.ownsRow w.heap.size 77 3 v es.length ((doL ts L xn).flatMap mkC)) ∧ Hid (wc.ownsRow w.heap.size 77 3 (.slice va es.length vc) es.length (L.flatMap mkC)) ∧ Hid (LF w #[.slice EA es.length ec, .slice TA ts.length tc] wc))
          case first =>
            go_region_with (go_at_call 41; refine D.out.mono ?_; rintro e w5 ⟨hb5, v5, rfl, h5, -⟩; have HV5 := Lib.hid h5; have HB5 := Lib.hid hb5; clear h5 hb5)
            all_goals
              have F1 : Hid (doE es.length ts L (xn : Int) = 0 → w5.ownsRow w.heap.size 77 3 v5 es.length ((doL ts L xn).flatMap mkC)) := Lib.hid (fun h => by have h5 := HV5.out h; rw [HLn.out, Int.toNat_natCast] at h5; exact own_base h5 (Nat.le_of_lt Ld.out.lt))
              have F2 := Lib.hid (own_below Od.out HB5.out)
              have F3 := Lib.hid (Ld.out.call HB5.out)
              clear HV5 HB5 D
              go_wp2_with fail
              go_meet
              exact ⟨_, rfl, rfl, F1, F2, F3⟩
          case rest =>
            obtain ⟨v5, rfl, rfl, HV5, O5, L5⟩ := hcut
            clear D kb c0 c1 L4 O4 Ld Od hbz hl4
            have kb := KB.out
            rw [← L5.out.b.cell (p := ⟨b, _, none⟩) hb] at kb
            have hl5 := L5.out.lt
            have hbz : b < wc.heap.size := by omega
            obtain ⟨c0, c1⟩ := L5.out.cells
            by_cases hq : doE es.length ts L (xn : Int) = 0
            · rw [if_pos hq] at HNs
              have P5 := Lib.hid (HV5.out hq)
              obtain ⟨_, xk, hxk, hxe, _⟩ := do_ok hq
              have hxe2 : xn = xk := by omega
              have ages := ages_do (ts := ts) (l := L) (k := xn) (by omega)
              rw [hq]
              rw [← HNs.out, ← HNx.out] at P5 ages
              have HAg := Lib.hid ages
              clear hq HV5 ages hxe hxe2 hxk
              obtain ⟨v6a, v6c, rfl⟩ := own_slice P5.out
              have hL2 := runK_len ts es bs (k + 1)
              generalize hRK2 : runK ts es bs (k + 1) = L2 at *
              have HRK := Lib.hid hRK2
              clear hRK2
              go_wp2_with fail
              obtain ⟨wo, rfl⟩ : ∃ wo : World, wo = wr := ⟨_, rfl⟩
              go_loopw [59] (fun q wx => ∃ m : Nat, m ≤ es.length ∧ q = .int .i64 m ∧ Hid (wx.ownsRow w.heap.size 77 3 (.slice va es.length vc) es.length (L.flatMap mkC)) ∧ Hid (wx.ownsRow w.heap.size 77 3 (.slice v6a es.length v6c) es.length (L2.flatMap mkC)) ∧ Hid (LF w #[.slice EA es.length ec, .slice TA ts.length tc] wx)) (fun q _ => es.length - (intOf q).toNat)
              case atStart => exact ⟨0, Nat.zero_le _, rfl, O5, P5, L5⟩
              case round =>
                clear O5 P5 L5
                obtain ⟨m, hm, rfl, HO, HP, HL⟩ := hrel
                by_cases hlt2 : m < es.length
                · obtain ⟨gO, rfl, hgO⟩ := head_some HO.out (by omega)
                  obtain ⟨gP, rfl, hgP⟩ := head_some HP.out (by omega)
                  obtain ⟨a0, a1, a2⟩ := own_mk HO.out HLn.out hlt2
                  obtain ⟨b0, b1, b2⟩ := own_mk HP.out hL2 hlt2
                  have hA := HAg.out m (by rw [HLn.out]; exact hlt2)
                  have hm0 : (0 : Int) ≤ (m : Int) := Int.natCast_nonneg _
                  have hm1 : (m : Int) < (es.length : Int) := by omega
                  generalize L[m]! = y at *
                  generalize L2[m]! = y2 at *
                  obtain ⟨yi, ya, yd⟩ := y
                  obtain ⟨zi, za, zd⟩ := y2
                  simp only at a0 a1 a2 b0 b1 b2 hA
                  by_cases h1 : 0 ≤ ya
                  · have h3 : 0 ≤ za := by rw [decide_eq_true h1, Bool.true_or, decide_eq_true_eq] at hA; exact hA
                    have d1 := decide_eq_true h1
                    have d3 := decide_eq_true h3
                    clear hA HAg
                    go_wp2_with fail
                    go_quiet (fail)
                    go_wp2_with fail
                    go_roundw
                    case rel => exact ⟨m + 1, hlt2, by go_num, HO, HP, LF.drewN HL.out _⟩
                    case measure => simp [intOf]; omega
                  · by_cases h2 : ((m : Int) = (xn : Int))
                    · have h3 : 0 ≤ za := by rw [decide_eq_true h2, Bool.or_true, decide_eq_true_eq] at hA; exact hA
                      have d1 := decide_eq_false h1
                      have d3 := decide_eq_true h3
                      obtain rfl : m = xn := by omega
                      clear h2
                      clear hA HAg
                      go_wp2_with fail
                      go_quiet (fail)
                      go_wp2_with fail
                      go_roundw
                      case rel => exact ⟨m + 1, hlt2, by go_num, HO, HP, LF.drewN HL.out _⟩
                      case measure => simp [intOf]; omega
                    · have h3 : ¬ 0 ≤ za := by rw [decide_eq_false h1, decide_eq_false h2, Bool.or_false, decide_eq_false_iff_not] at hA; exact hA
                      have d1 := decide_eq_false h1
                      have d3 := decide_eq_false h3
                      have h2b : (m == xn) = false := by rw [beq_eq_false_iff_ne]; omega
                      clear hA HAg
                      go_wp2_with fail
                      go_quiet (fail)
                      go_wp2_with fail
                      go_roundw
                      case rel => exact ⟨m + 1, hlt2, by go_num, HO, HP, LF.drewN HL.out _⟩
                      case measure => simp [intOf]; omega
                · obtain rfl : m = es.length := by omega
                  clear HAg
                  go_wp2_with fail
                  go_roundw
                  case rel => exact ⟨k + 1, hlt, h60, by go_num, by rw [HRK.out]; exact HP, HL⟩
                  case measure => simp only [intOf]; omega
            · rw [if_neg hq] at HNs
              generalize doE es.length ts L (xn : Int) = qq at *
              have e1 : (qq != 0) = true := bne_iff_ne.2 hq
              clear hq HV5
              have T := Lib.hid (tick_any wc EA TA va es.length ec ts.length tc vc L (Row.of_own O5.out) (by rw [HLn.out]; omega))
              rw [HLn.out] at T
              go_wp2_with fail
              refine T.out.mono ?_
              rintro e w6 ⟨hb6, v6, rfl, h6, -⟩
              have L6 := Lib.hid (L5.out.call hb6)
              have O6 := Lib.hid (own_below O5.out hb6)
              by_cases htk : tickE es.length L = 0
              · have P6 := Lib.hid (own_base (h6 htk) (Nat.le_of_lt hl5))
                rw [HLn.out] at P6
                rw [if_pos htk] at HNs
                rw [htk]
                have ages := ages_tick L
                rw [← HNs.out, ← HNx.out] at P6 ages
                have HAg := Lib.hid ages
                have O5 := O6
                have P5 := P6
                have L5 := L6
                clear hb6 h6 htk T ages e1 kb c0 c1 hl5 hbz
                obtain ⟨v6a, v6c, rfl⟩ := own_slice P5.out
                have hL2 := runK_len ts es bs (k + 1)
                generalize hRK2 : runK ts es bs (k + 1) = L2 at *
                have HRK := Lib.hid hRK2
                clear hRK2
                go_wp2_with fail
                obtain ⟨wo, rfl⟩ : ∃ wo : World, wo = wr := ⟨_, rfl⟩
                go_loopw [59] (fun q wx => ∃ m : Nat, m ≤ es.length ∧ q = .int .i64 m ∧ Hid (wx.ownsRow w.heap.size 77 3 (.slice va es.length vc) es.length (L.flatMap mkC)) ∧ Hid (wx.ownsRow w.heap.size 77 3 (.slice v6a es.length v6c) es.length (L2.flatMap mkC)) ∧ Hid (LF w #[.slice EA es.length ec, .slice TA ts.length tc] wx)) (fun q _ => es.length - (intOf q).toNat)
                case atStart => exact ⟨0, Nat.zero_le _, rfl, O5, P5, L5⟩
                case round =>
                  clear O5 P5 L5
                  obtain ⟨m, hm, rfl, HO, HP, HL⟩ := hrel
                  by_cases hlt2 : m < es.length
                  · obtain ⟨gO, rfl, hgO⟩ := head_some HO.out (by omega)
                    obtain ⟨gP, rfl, hgP⟩ := head_some HP.out (by omega)
                    obtain ⟨a0, a1, a2⟩ := own_mk HO.out HLn.out hlt2
                    obtain ⟨b0, b1, b2⟩ := own_mk HP.out hL2 hlt2
                    have hA := HAg.out m (by rw [HLn.out]; exact hlt2)
                    have hm0 : (0 : Int) ≤ (m : Int) := Int.natCast_nonneg _
                    have hm1 : (m : Int) < (es.length : Int) := by omega
                    generalize L[m]! = y at *
                    generalize L2[m]! = y2 at *
                    obtain ⟨yi, ya, yd⟩ := y
                    obtain ⟨zi, za, zd⟩ := y2
                    simp only at a0 a1 a2 b0 b1 b2 hA
                    by_cases h1 : 0 ≤ ya
                    · have h3 : 0 ≤ za := by rw [decide_eq_true h1, Bool.true_or, decide_eq_true_eq] at hA; exact hA
                      have d1 := decide_eq_true h1
                      have d3 := decide_eq_true h3
                      clear hA HAg
                      go_wp2_with fail
                      go_quiet (fail)
                      go_wp2_with fail
                      go_roundw
                      case rel => exact ⟨m + 1, hlt2, by go_num, HO, HP, LF.drewN HL.out _⟩
                      case measure => simp [intOf]; omega
                    · by_cases h2 : ((m : Int) = (-1))
                      · exact absurd h2 (by omega)
                      · have h3 : ¬ 0 ≤ za := by rw [decide_eq_false h1, decide_eq_false h2, Bool.or_false, decide_eq_false_iff_not] at hA; exact hA
                        have d1 := decide_eq_false h1
                        have d3 := decide_eq_false h3
                        have h2b : ((m : Int) == (-1)) = false := beq_eq_false_iff_ne.2 h2
                        clear hA HAg
                        go_wp2_with fail
                        go_quiet (fail)
                        go_wp2_with fail
                        go_roundw
                        case rel => exact ⟨m + 1, hlt2, by go_num, HO, HP, LF.drewN HL.out _⟩
                        case measure => simp [intOf]; omega
                  · obtain rfl : m = es.length := by omega
                    clear HAg
                    go_wp2_with fail
                    go_roundw
                    case rel => exact ⟨k + 1, hlt, h60, by go_num, by rw [HRK.out]; exact HP, HL⟩
                    case measure => simp only [intOf]; omega
              · rw [if_neg htk] at HNs
                generalize tickE es.length L = tt at *
                have e2 : (tt != 0) = true := bne_iff_ne.2 htk
                clear hb6 h6 htk T L5 O5 c0 c1 kb
                go_wp2_with fail
                go_roundw
                case rel => exact ⟨k + 1, hlt, h60, by go_num, by rw [HNx.out, HNs.out]; exact O6, L6⟩
                case measure => simp [intOf]; omega
        · go_wp2_with fail
          refine FT.out.mono ?_
          rintro e w4 ⟨rfl, hb4⟩
          have L4 := Lib.hid (HL.out.call hb4)
          clear hb4
          go_wp2_with fail
          go_ret
          exact ⟨rfl, L4.out.b⟩
      · go_wp2_with fail
        refine FT.out.mono ?_
        rintro e w4 ⟨rfl, hb4⟩
        have L4 := Lib.hid (HL.out.call hb4)
        clear hb4
        go_wp2_with fail
        go_ret
        exact ⟨rfl, L4.out.b⟩

theorem own : ownKnob Try.prog.godebug = none := by kernel_rfl
set_option maxRecDepth 100000 in
theorem lifted (os : Os) (started : os.Started) (H : Type) (enc : TypeId × Value → H) :
    ReturnsInHanded {} Try.checked os 9 .any (Rows.markFitsSpec.pre6 enc Try.prog Try.f9 Rows.markFitsRow.domain false) (Rows.markFitsSpec.post enc Try.prog Try.f9 false true false false) := by
  refine returnsInHanded_of_change_sized (C := Try.checked) own started (by kernel_rfl) Try.func9
    (ChangeSpec.witness6 (enc := enc) (C := Try.checked) false ⟨#[], #[.agg #[.slice none 0 0, .slice none 0 0], .slice none 0 0], []⟩ 8 (by kernel_rfl) (by kernel_rfl) (by kernel_rfl) (by kernel_rfl)) ?_
  intro W base args ds gs before hval0 hW _ hsz0 _
  have hsz : (DataW.weightsEach Try.prog (Try.f9.params.toList ++ Rows.markFitsSpec.plain.varTypes Try.prog) (ds ++ gs)).all (· ≤ reachBytes) = true := hsz0
  have hval : ∀ (j : Nat) t v, Try.f9.params[j]? = some t → args[j]? = some v → Value.okWide Try.prog W .any base t v := hval0
  have hW' := hW
  obtain ⟨p, q, hA0, hV, rfl, _, _⟩ := hW
  have hA : DataW.TrodAll enc Try.prog W 0 (fun _ => true) true Try.f9.params.toList args.toList ds p := hA0
  rw [Try.params9] at hA hval hsz
  obtain ⟨v0, vs0, d0, ds0, p0, q0, hargs, rfl, rfl, h0, r0⟩ := trodAll_cons hA
  obtain ⟨v1, vs1, d1, ds1, p1, q1, e1, rfl, rfl, h1, r1⟩ := trodAll_cons r0
  obtain ⟨rfl, rfl, rfl⟩ := trodAll_nil r1
  subst e1
  obtain rfl : args = #[v0, v1] := by cases args; simp_all
  obtain ⟨rfl, rfl⟩ := trodVars_none hV
  have hw0 : Wt Try.prog 32 d0 := Wt.of hsz (j := 0) rfl rfl
  obtain ⟨EA, TA, ec, tc, es, ts, rfl, he, ht, hel, htl, hge, hgt⟩ := open_flat (hval 0 _ v0 rfl rfl) h0 hw0
  have hw1 : Wt Try.prog 75 d1 := Wt.of hsz (j := 1) rfl rfl
  obtain ⟨A1, c1, l1, rfl, hr1, hl1⟩ := open_u8s (hval 1 _ v1 rfl rfl) h1 hw1
  clear hA0 hval0 hsz0
  simp only [List.append_nil] at hW'
  have hlt0 := fun x hx => hW'.lt x hx
  refine (walk W EA TA A1 ec tc c1 es ts l1 he ht hr1 hl1).mono fun e W' ⟨he2, hg⟩ => ?_
  subst he2
  have hargs := (trodAll_cons_mk (Below.trod progLaid (by kernel_rfl) (of_decide_eq_true (by kernel_rfl)) h0 hg (fun x hx => hlt0 x (List.mem_append_left _ hx))) (trodAll_cons_mk (Below.trod progLaid (by kernel_rfl) (of_decide_eq_true (by kernel_rfl)) h1 hg (fun x hx => hlt0 x (List.mem_append_right _ (hx)))) (trodAll_mk0 (enc := enc) (P := Try.prog) (w := W'))))
  simp only [List.append_nil] at hargs
  exact ⟨_, rfl, _, _, _, [], p0 ++ (p1), [], hW', trodAll_cons_mk (shut_bool Try.underlying4 _) trodAll_mk0, hargs, rfl, hg.frame _, fun h => by cases h⟩

theorem proved : Rows.MarkFitsSaid :=
  OpenClaim.holds_of_wide 9 Try.f9 rfl rfl rfl rfl rfl rfl rfl ⟨rfl, rfl, rfl, rfl, rfl⟩ rfl rfl rfl rfl rfl (by kernel_rfl) Try.func9 (by kernel_rfl)
    (of_decide_eq_true (by kernel_rfl)) (by unfold Func.isWrapper; first | (rw [if_pos (by decide +kernel)]; kernel_rfl) | (rw [if_neg (by decide +kernel)]; exact ⟨rfl, rfl⟩))
    (fun os started H enc _ => lifted os started H enc)
end Go.Proofs.Ytplplkchibefjaa.M5.Fits
