/-
  MarkStays answers true, whatever graph, whatever steps and whatever event it is given.
-/
import Derived.Test.YtplplkchibefjaaMkW
import Derived.Test.YtplplkchibefjaaMkJ
namespace Go.Proofs.Ytplplkchibefjaa.M5.Stays
open Go.RowKit Go.Shelf Go.Deep Go.Joins Go.ChangeShapes Go.WideShapes Go.Proofs.Ytplplkchibefjaa.B Go.Proofs.Ytplplkchibefjaa.M5

/-- Does a tie of the event name a place? -/
def nmB (bn : Nat) (i : Int) (t : Ti) : Bool := decide (t.fr = (bn : Int)) && decide (2 ≤ t.kind) && decide (t.kind ≤ 4) && decide (t.to = i)
def namS (ts : List Ti) (bn j : Nat) (i : Int) : Bool := decide (i = (bn : Int)) || (ts.take j).any (nmB bn i)
theorem any_next {p : Ti → Bool} {ts : List Ti} {j : Nat} (hj : j < ts.length) : (ts.take (j + 1)).any p = ((ts.take j).any p || p ts[j]!) := by
  rw [take_next hj, List.any_append]; simp
theorem nam_no {ts : List Ti} {bn j : Nat} (hj : j < ts.length) (h : (decide (ts[j]!.fr = (bn : Int)) && decide (2 ≤ ts[j]!.kind) && decide (ts[j]!.kind ≤ 4)) = false) (i : Int) : namS ts bn j i = namS ts bn (j + 1) i := by
  unfold namS
  rw [any_next hj]
  have : nmB bn i ts[j]! = false := by unfold nmB; rw [h, Bool.false_and]
  rw [this, Bool.or_false]
theorem nam_yes {ts : List Ti} {bn j : Nat} (hj : j < ts.length) (h : (decide (ts[j]!.fr = (bn : Int)) && decide (2 ≤ ts[j]!.kind) && decide (ts[j]!.kind ≤ 4)) = true) (i : Int) : (namS ts bn j i || decide (i = ts[j]!.to)) = namS ts bn (j + 1) i := by
  unfold namS
  rw [any_next hj]
  have : nmB bn i ts[j]! = decide (i = ts[j]!.to) := by unfold nmB; rw [h, Bool.true_and]; exact decide_eq_decide.2 ⟨fun e => e.symm, fun e => e.symm⟩
  rw [this, Bool.or_assoc]
theorem nam_far {ts : List Ti} {l : List Mk} {bn k : Nat} (h : namS ts bn ts.length (k : Int) = false) : k ≠ bn ∧ (doL ts l bn)[k]! = l[k]! := by
  unfold namS at h
  rw [List.take_length, Bool.or_eq_false_iff, decide_eq_false_iff_not] at h
  have hk : k ≠ bn := fun e => h.1 (by rw [e])
  refine ⟨hk, do_far hk ?_⟩
  have : nmB bn (k : Int) = namesB bn k := rfl
  rw [← this]; exact h.2
theorem head_some {W : World} {B e z n c : Nat} {A : Option Addr} {xs : List Value} (h : W.ownsRow B e z (.slice A n c) n xs) (h0 : 0 < n) : ∃ g, A = some ⟨g, 0, none⟩ ∧ g < W.heap.size := by
  obtain ⟨g, cap, hv, _, hl⟩ := own_head h h0
  injection hv with h1 _ _
  exact ⟨g, h1, hl⟩
set_option maxRecDepth 100000 in
set_option maxHeartbeats 8000000 in
theorem walk (w : World) (EA TA A : Option Addr) (ec tc c : Nat) (es : List Ev) (ts : List Ti) (bs : List UInt8) (bt : UInt8) (he : Row w EA (es.flatMap evC)) (ht : Row w TA (ts.flatMap tiC)) (hr : Row w A (bs.flatMap u8C)) (hbl : bs.length ≤ 140737488351232) (hgt : ∀ t ∈ ts, goodT t) :
    Calls Try.prog 10 #[.agg #[.slice EA es.length ec, .slice TA ts.length tc], .slice A bs.length c, .int .u8 (bt.toNat : Int)] w fun e w' => e = .returned (.bool true) ∧ Below w.heap.size w w' := by
  have L0 := Lib.hid (LF.start w #[.slice EA es.length ec, .slice TA ts.length tc])
  have AWK := Lib.hid (awake_any (w.alloc (.cells #[.slice EA es.length ec, .slice TA ts.length tc] 32)))
  have HE := Lib.hid he
  have HT := Lib.hid ht
  have HR := Lib.hid hr
  have HG := Lib.hid hgt
  have hx := bt.toNat_lt
  obtain ⟨bn, hbn⟩ : ∃ bn : Nat, bn = bt.toNat := ⟨_, rfl⟩
  rw [← hbn] at hx ⊢
  have hwr : IntKind.i64.wrap ((bn : Nat) : Int) = ((bn : Nat) : Int) := IntWalk.i64_in _ (by omega)
  clear he ht hr hgt hbn
  go_enter Try.func10, Try.ntmps10
  go_wp2_with fail
  refine AWK.out.mono ?_
  rintro e w1 ⟨rfl, hb⟩
  have L1 := Lib.hid (L0.out.call hb)
  clear hb AWK L0
  obtain ⟨c0, c1⟩ := L1.out.cells
  have ll := L1.out.lt
  go_wp2_with fail
  refine (large_any EA TA es.length ec ts.length tc w1).mono ?_
  rintro e w2 ⟨rfl, hb⟩
  have L2 := Lib.hid (L1.out.call hb)
  clear hb L1 c0 c1 ll
  obtain ⟨c0, c1⟩ := L2.out.cells
  have ll := L2.out.lt
  cases hlg : largeB es.length ts.length with
  | true =>
    go_wp2_with fail
    go_ret
    exact ⟨rfl, L2.out.b⟩
  | false =>
    obtain ⟨hel, htl⟩ := large_no hlg
    clear hlg
    have R := Lib.hid (run_any w2 EA TA A ec tc c es ts bs (HE.out.below (Nat.le_refl _) L2.out.b) (HT.out.below (Nat.le_refl _) L2.out.b) (HR.out.below (Nat.le_refl _) L2.out.b) hel htl hbl)
    have HLn := Lib.hid (runL_len ts es bs)
    generalize runL ts es bs = L at *
    go_wp2_with fail
    refine R.out.mono ?_
    rintro e w3 ⟨v3, rfl, ho, hb⟩
    obtain ⟨va, vc, rfl⟩ := own_slice ho
    have L3 := Lib.hid (L2.out.call hb)
    have O3 := Lib.hid (own_base ho (Nat.le_of_lt ll))
    clear hb ho R L2 c0 c1 ll
    obtain ⟨c0, c1⟩ := L3.out.cells
    have ll := L3.out.lt
    have D := Lib.hid (do_any w3 EA TA va es.length ec tc vc ts L (bn : Int) (HT.out.below (Nat.le_refl _) L3.out.b) (by omega) (Row.of_own O3.out) (by rw [HLn.out]; omega))
    rw [HLn.out] at D
    go_wp2_with fail
    refine D.out.mono ?_
    rintro e w4 ⟨hb, v4, rfl, h1, h2⟩
    have L4 := Lib.hid (L3.out.call hb)
    have O4 := Lib.hid (own_below O3.out hb)
    by_cases hq : doE es.length ts L (bn : Int) = 0
    · have P4 := Lib.hid (own_base (h1 hq) (Nat.le_of_lt ll))
      rw [HLn.out, Int.toNat_natCast] at P4
      obtain ⟨_, bk, hbk, hbe, _⟩ := do_ok hq
      have hbn : bn < es.length := by rw [← HLn.out]; omega
      have HN := fun (k : Nat) (h : namS ts bn ts.length (k : Int) = false) => Lib.hid (nam_far (l := L) h)
      have HAge := Lib.hid (fun j => do_age (ts := ts) (l := L) (k := bn) (by omega) j)
      have hNl : (doL ts L bn).length = es.length := by rw [do_len, HLn.out]
      rw [hq]
      generalize doL ts L bn = N at *
      obtain ⟨vb, vd, rfl⟩ := own_slice P4.out
      clear hb h1 h2 hq D hbe hbk L3 O3 c0 c1 ll
      have hmk := mkZ w4
      have hJ0 : JI w #[.slice EA es.length ec, .slice TA ts.length tc] va es.length vc L vb vd N w4.heap.size 0 (fun _ => false) (w4.alloc (.map #[] 0)) :=
        ⟨L4.out.alloc _, O4.out.alloc _, P4.out.alloc _, BI.made w4, L4.out.lt⟩
      obtain ⟨w5, hput, hJ1⟩ := hJ0.put (i := (bn : Int)) (WalkArith.wf_i64 (by omega)) (by decide)
      have J1 := Lib.hid ((hJ1.mono (show 0 + 1 ≤ 1 + 0 from Nat.le_refl _)).congr (S' := namS ts bn 0) (fun i => by unfold namS; simp))
      have hlB := L4.out.lt
      clear hJ0 hJ1 L4 O4 P4
      obtain ⟨c0, c1⟩ := J1.out.l.cells
      have ll := J1.out.l.lt
      go_wp2_with fail
      clear c0 c1 ll hput hmk
      generalize w4.heap.size = B at *
      go_loopw [41] (fun i wr => ∃ j : Nat, j ≤ ts.length ∧ i = .int .i64 j ∧ Hid (JI w #[.slice EA es.length ec, .slice TA ts.length tc] va es.length vc L vb vd N B (1 + j) (namS ts bn j) wr)) (fun i _ => ts.length - (intOf i).toNat)
      case atStart => exact ⟨0, Nat.zero_le _, rfl, J1⟩
      case round =>
        clear J1
        obtain ⟨j, hj, rfl, HJ⟩ := hrel
        by_cases hlt : j < ts.length
        · obtain ⟨b, off, rfl, hb, hc⟩ := HT.out.at_ (k := 4) (fun _ => rfl) (by omega) hlt
          have k0 := hc 0 _ rfl
          have k1 := hc 1 _ rfl
          have k2 := hc 2 _ rfl
          have k3 := hc 3 _ rfl
          rw [Nat.add_zero] at k0
          rw [← HJ.out.l.b.cell (p := ⟨b, _, none⟩) hb] at k0 k1 k2 k3
          have hz := HJ.out.l.lt
          have hbz : b < wr.heap.size := by omega
          have hNo := fun h => Lib.hid (nam_no (bn := bn) hlt h)
          have hYes := fun h => Lib.hid (nam_yes (bn := bn) hlt h)
          have hgd := (HG.out _ (mem_at hlt)).2.2.1
          generalize ts[j]! = x at *
          have HJx := Lib.hid (HJ.out.alloc (.cells #[.int .i64 x.kind, .int .i64 x.fr, .int .i64 x.to, .int .i64 x.time] 49))
          obtain ⟨w9, hput, hJ9⟩ := HJx.out.put hgd (show 1 + j < maxLen by unfold maxLen; omega)
          have J9 := Lib.hid (hJ9.mono (show 1 + j + 1 ≤ 1 + (j + 1) by omega))
          have JN := Lib.hid (HJx.out.mono (show 1 + j ≤ 1 + (j + 1) by omega))
          clear hc hJ9 hgd
          by_cases h1 : x.fr = (bn : Int)
          · have t1 : (x.fr == (bn : Int)) = true := beq_iff_eq.2 h1
            by_cases h2 : 2 ≤ x.kind
            · by_cases h3 : x.kind ≤ 4
              · have e := (hYes (by rw [decide_eq_true h1, decide_eq_true h2, decide_eq_true h3]; rfl)).out
                have JE := Lib.hid (J9.out.congr e)
                clear hNo hYes e h1 J9 JN HJx
                go_wp2_with fail
                go_roundw
                case rel => exact ⟨j + 1, hlt, by go_num, JE⟩
                case measure => simp [intOf]; omega
              · have e := (hNo (by rw [decide_eq_false h3, Bool.and_false])).out
                have JE := Lib.hid (JN.out.congr e)
                clear hNo hYes e h1 J9 JN HJx hput
                go_wp2_with fail
                go_roundw
                case rel => exact ⟨j + 1, hlt, by go_num, JE⟩
                case measure => simp [intOf]; omega
            · have e := (hNo (by rw [decide_eq_false h2, Bool.and_false, Bool.false_and])).out
              have JE := Lib.hid (JN.out.congr e)
              clear hNo hYes e h1 J9 JN HJx hput
              go_wp2_with fail
              go_roundw
              case rel => exact ⟨j + 1, hlt, by go_num, JE⟩
              case measure => simp [intOf]; omega
          · have t1 : (x.fr == (bn : Int)) = false := beq_eq_false_iff_ne.2 h1
            have e := (hNo (by rw [decide_eq_false h1, Bool.false_and, Bool.false_and])).out
            have JE := Lib.hid (JN.out.congr e)
            clear hNo hYes e h1 J9 JN HJx hput
            go_wp2_with fail
            go_roundw
            case rel => exact ⟨j + 1, hlt, by go_num, JE⟩
            case measure => simp [intOf]; omega
        · obtain rfl : j = ts.length := by omega
          go_wp2_with fail
          go_loopw [66] (fun i wx => ∃ k : Nat, k ≤ es.length ∧ i = .int .i64 k ∧ Hid (JI w #[.slice EA es.length ec, .slice TA ts.length tc] va es.length vc L vb vd N B (1 + ts.length) (namS ts bn ts.length) wx)) (fun i _ => es.length - (intOf i).toNat)
          case atStart => exact ⟨0, Nat.zero_le _, rfl, HJ⟩
          case round =>
            clear HJ
            obtain ⟨k, hk, rfl, HJ⟩ := hrel
            by_cases hlt2 : k < es.length
            · obtain ⟨gO, rfl, hgO⟩ := head_some HJ.out.o (by omega)
              obtain ⟨gP, rfl, hgP⟩ := head_some HJ.out.p (by omega)
              obtain ⟨a0, a1, a2⟩ := own_mk HJ.out.o HLn.out hlt2
              obtain ⟨b0, b1, b2⟩ := own_mk HJ.out.p hNl hlt2
              have hlk := fun n => (HJ.out.drewN n).m.look (i := (k : Int)) (WalkArith.wf_i64 (by omega))
              have hk0 : (0 : Int) ≤ (k : Int) := Int.natCast_nonneg _
              have hk1 : (k : Int) < (es.length : Int) := by omega
              have hag := HAge.out k
              cases hq : namS ts bn ts.length (k : Int) with
              | true =>
                rw [hq] at hlk
                clear hq
                generalize L[k]! = y at *
                generalize N[k]! = z at *
                obtain ⟨yi, ya, yd⟩ := y
                obtain ⟨zi, za, zd⟩ := z
                simp only at a0 a1 a2 b0 b1 b2 hag
                by_cases hkb : k = bn
                · subst hkb
                  clear hag
                  go_wp2_with fail
                  go_quiet (fail)
                  go_wp2_with fail
                  go_roundw
                  case rel => exact ⟨k + 1, hlt2, by go_num, HJ.out.drewN _⟩
                  case measure => simp [intOf]; omega
                · rw [if_neg hkb] at hag
                  subst hag
                  have hkb2 : (k == bn) = false := beq_eq_false_iff_ne.2 hkb
                  have hkb3 : (k != bn) = true := bne_iff_ne.2 hkb
                  have hkb4 : ((k : Int) != (bn : Int)) = true := by rw [bne_iff_ne]; omega
                  have hkb5 : ((k : Int) == (bn : Int)) = false := by rw [beq_eq_false_iff_ne]; omega
                  go_wp2_with fail
                  go_quiet (fail)
                  go_wp2_with fail
                  go_roundw
                  case rel => exact ⟨k + 1, hlt2, by go_num, HJ.out.drewN _⟩
                  case measure => simp [intOf]; omega
              | false =>
                obtain ⟨hkb, hyz⟩ := (HN k hq).out
                rw [hq] at hlk
                rw [if_neg hkb] at hag
                rw [hyz] at b0 b1 b2
                have heq := fun W => neq_mk L[k]! L[k]! W
                rw [sameM_iff.2 rfl] at heq
                have hkb2 : (k == bn) = false := beq_eq_false_iff_ne.2 hkb
                have hkb3 : (k != bn) = true := bne_iff_ne.2 hkb
                have hkb4 : ((k : Int) != (bn : Int)) = true := by rw [bne_iff_ne]; omega
                have hkb5 : ((k : Int) == (bn : Int)) = false := by rw [beq_eq_false_iff_ne]; omega
                clear hq hag hyz
                generalize L[k]! = y at *
                obtain ⟨yi, ya, yd⟩ := y
                simp only at a0 a1 a2 b0 b1 b2 heq
                go_wp2_with fail
                go_quiet (fail)
                go_wp2_with fail
                go_roundw
                case rel => exact ⟨k + 1, hlt2, by go_num, HJ.out.drewN _⟩
                case measure => simp [intOf]; omega
            · obtain rfl : k = es.length := by omega
              obtain ⟨gP, rfl, hgP⟩ := head_some HJ.out.p (by omega)
              obtain ⟨b0, b1, b2⟩ := own_mk HJ.out.p hNl hbn
              have hag := HAge.out bn
              rw [if_pos rfl] at hag
              rw [hag] at b1
              have hb0 : (0 : Int) ≤ (bn : Int) := Int.natCast_nonneg _
              have hb1 : (bn : Int) < (es.length : Int) := by omega
              clear hag
              go_wp2_with fail
              go_ret
              exact ⟨rfl, HJ.out.l.b⟩
    · have hv := h2 hq
      subst hv
      generalize doE es.length ts L (bn : Int) = qq at *
      have e1 : (qq != 0) = true := bne_iff_ne.2 hq
      clear h1 h2 hq hb D
      go_wp2_with fail
      go_ret
      exact ⟨rfl, L4.out.b⟩

theorem own : ownKnob Try.prog.godebug = none := by kernel_rfl
set_option maxRecDepth 100000 in
theorem lifted (os : Os) (started : os.Started) (H : Type) (enc : TypeId × Value → H) :
    ReturnsInHanded {} Try.checked os 10 .any (Rows.markStaysSpec.pre6 enc Try.prog Try.f10 Rows.markStaysRow.domain false) (Rows.markStaysSpec.post enc Try.prog Try.f10 false true false false) := by
  refine returnsInHanded_of_change_sized (C := Try.checked) own started (by kernel_rfl) Try.func10
    (ChangeSpec.witness6 (enc := enc) (C := Try.checked) false ⟨#[], #[.agg #[.slice none 0 0, .slice none 0 0], .slice none 0 0, .int .u8 0], []⟩ 8 (by kernel_rfl) (by kernel_rfl) (by kernel_rfl) (by kernel_rfl)) ?_
  intro W base args ds gs before hval0 hW _ hsz0 _
  have hsz : (DataW.weightsEach Try.prog (Try.f10.params.toList ++ Rows.markStaysSpec.plain.varTypes Try.prog) (ds ++ gs)).all (· ≤ reachBytes) = true := hsz0
  have hval : ∀ (j : Nat) t v, Try.f10.params[j]? = some t → args[j]? = some v → Value.okWide Try.prog W .any base t v := hval0
  have hW' := hW
  obtain ⟨p, q, hA0, hV, rfl, _, _⟩ := hW
  have hA : DataW.TrodAll enc Try.prog W 0 (fun _ => true) true Try.f10.params.toList args.toList ds p := hA0
  rw [Try.params10] at hA hval hsz
  obtain ⟨v0, vs0, d0, ds0, p0, q0, hargs, rfl, rfl, h0, r0⟩ := trodAll_cons hA
  obtain ⟨v1, vs1, d1, ds1, p1, q1, e1, rfl, rfl, h1, r1⟩ := trodAll_cons r0
  obtain ⟨v2, vs2, d2, ds2, p2, q2, e2, rfl, rfl, h2, r2⟩ := trodAll_cons r1
  obtain ⟨rfl, rfl, rfl⟩ := trodAll_nil r2
  subst e2
  subst e1
  obtain rfl : args = #[v0, v1, v2] := by cases args; simp_all
  obtain ⟨rfl, rfl⟩ := trodVars_none hV
  have hw0 : Wt Try.prog 32 d0 := Wt.of hsz (j := 0) rfl rfl
  obtain ⟨EA, TA, ec, tc, es, ts, rfl, he, ht, hel, htl, hge, hgt⟩ := open_flat (hval 0 _ v0 rfl rfl) h0 hw0
  have hw1 : Wt Try.prog 75 d1 := Wt.of hsz (j := 1) rfl rfl
  obtain ⟨A1, c1, l1, rfl, hr1, hl1⟩ := open_u8s (hval 1 _ v1 rfl rfl) h1 hw1
  obtain ⟨b2, rfl⟩ := open_u8 (hval 2 _ v2 rfl rfl) h2
  clear hA0 hval0 hsz0
  simp only [List.append_nil] at hW'
  have hlt0 := fun x hx => hW'.lt x hx
  refine (walk W EA TA A1 ec tc c1 es ts l1 b2 he ht hr1 hl1 hgt).mono fun e W' ⟨he2, hg⟩ => ?_
  subst he2
  have hargs := (trodAll_cons_mk (Below.trod progLaid (by kernel_rfl) (of_decide_eq_true (by kernel_rfl)) h0 hg (fun x hx => hlt0 x (List.mem_append_left _ hx))) (trodAll_cons_mk (Below.trod progLaid (by kernel_rfl) (of_decide_eq_true (by kernel_rfl)) h1 hg (fun x hx => hlt0 x (List.mem_append_right _ (List.mem_append_left _ hx)))) (trodAll_cons_mk (Below.trod progLaid (by kernel_rfl) (of_decide_eq_true (by kernel_rfl)) h2 hg (fun x hx => hlt0 x (List.mem_append_right _ (List.mem_append_right _ (hx))))) (trodAll_mk0 (enc := enc) (P := Try.prog) (w := W')))))
  simp only [List.append_nil] at hargs
  exact ⟨_, rfl, _, _, _, [], p0 ++ (p1 ++ (p2)), [], hW', trodAll_cons_mk (shut_bool Try.underlying4 _) trodAll_mk0, hargs, rfl, hg.frame _, fun h => by cases h⟩

theorem proved : Rows.MarkStaysSaid :=
  OpenClaim.holds_of_wide 10 Try.f10 rfl rfl rfl rfl rfl rfl rfl ⟨rfl, rfl, rfl, rfl, rfl⟩ rfl rfl rfl rfl rfl (by kernel_rfl) Try.func10 (by kernel_rfl)
    (of_decide_eq_true (by kernel_rfl)) (by unfold Func.isWrapper; first | (rw [if_pos (by decide +kernel)]; kernel_rfl) | (rw [if_neg (by decide +kernel)]; exact ⟨rfl, rfl⟩))
    (fun os started H enc _ => lifted os started H enc)
end Go.Proofs.Ytplplkchibefjaa.M5.Stays
