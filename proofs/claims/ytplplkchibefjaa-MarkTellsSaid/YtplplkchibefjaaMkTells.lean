/-
  MarkTells answers true, whatever graph, whatever marks and whatever event it is given.
-/
import Derived.Test.YtplplkchibefjaaMkTa
import Derived.Deep.RegionHeld3
namespace Go.Proofs.Ytplplkchibefjaa.M5.Tells
open Go.RowKit Go.Shelf Go.Deep Go.Joins Go.ChangeShapes Go.WideShapes Go.Proofs.Ytplplkchibefjaa.B Go.Proofs.Ytplplkchibefjaa.M5 Go.Proofs.Ytplplkchibefjaa.M5.Does

section
variable {w W W' : World} {X : Nat} {EA TA TB : Option Addr} {en ec tc un uc : Nat} {fl gl : Array Value} {ts : List Ti} {v : Value} {L : List Nat}
theorem ts_all (h : TS w X #[.slice EA en ec, .slice TA un tc] #[.slice EA en ec, .slice TB un uc] TB ts v L W) :
    TS w X #[.slice EA en ec, .slice TA un tc] #[.slice EA en ec, .slice TB un uc] TB ts v L W ∧ W.cell? ⟨w.heap.size, 0, none⟩ = some (.slice EA en ec) ∧ W.cell? ⟨w.heap.size, 1, none⟩ = some (.slice TA un tc) ∧ W.cell? ⟨X, 0, none⟩ = some (.slice EA en ec) ∧ W.cell? ⟨X, 1, none⟩ = some (.slice TB un uc) :=
  ⟨h, h.x.cells.1.1, h.x.cells.1.2, h.x.cells.2.1, h.x.cells.2.2⟩
theorem ts_call (hb : Below W.heap.size W W') (h : TS w X fl gl TB ts v L W) : TS w X fl gl TB ts v L W' := h.call hb
theorem ts_drew (h : TS w X fl gl TB ts v L W) : TS w X fl gl TB ts v L W.drew := h.drew
end
theorem rsame_self (A B : Option Addr) (c d : Nat) (M : List Mk) (w : World) (hr1 : Row w A (M.flatMap mkC)) (hr2 : Row w B (M.flatMap mkC)) (hla : M.length * 24 ≤ 140737488351232) :
    Calls Try.prog 38 #[.slice A M.length c, .slice B M.length d] w fun e w' => e = .returned (.bool true) ∧ Below w.heap.size w w' := by
  have := rsame_any A B c d M M w hr1 hr2 hla
  rw [decide_eq_true rfl] at this; exact this
/-- What Start's contracts say, with the marking as one list. -/
def StartOf (M : List Mk) (w : World) (e : Ending) (w' : World) : Prop := ∃ v, e = .returned v ∧ w'.ownsRow w.heap.size 77 3 v M.length (M.flatMap mkC) ∧ Below w.heap.size w w'
set_option maxRecDepth 100000 in
set_option maxHeartbeats 16000000 in
theorem walk (w : World) (EA TA A : Option Addr) (ec tc c : Nat) (es : List Ev) (ts : List Ti) (l : List Mk) (i : Int) (he : Row w EA (es.flatMap evC)) (ht : Row w TA (ts.flatMap tiC)) (hr : Row w A (l.flatMap mkC)) :
    Calls Try.prog 7 #[.agg #[.slice EA es.length ec, .slice TA ts.length tc], .slice A l.length c, .int .i64 i] w fun e w' => e = .returned (.bool true) ∧ Below w.heap.size w w' := by
  have L0 := Lib.hid (LF.start w #[.slice EA es.length ec, .slice TA ts.length tc])
  have AWK := Lib.hid (awake_any (w.alloc (.cells #[.slice EA es.length ec, .slice TA ts.length tc] 32)))
  have HE := Lib.hid he
  have HT := Lib.hid ht
  have HR := Lib.hid hr
  clear he ht hr
  go_enter Try.func7, Try.ntmps7
  go_wp2_with fail
  refine AWK.out.mono ?_
  rintro e w1 ⟨rfl, hb⟩
  have L1 := Lib.hid (L0.out.call hb)
  clear hb AWK L0
  obtain ⟨c0, c1⟩ := L1.out.cells
  have ll := L1.out.lt
  go_wp2_with fail
  refine (large_any EA TA es.length ec ts.length tc w1).mono ?_
  rintro e w2 ⟨rfl, hb⟩
  have L2 := Lib.hid (L1.out.call hb)
  clear hb L1 c0 c1 ll
  obtain ⟨c0, c1⟩ := L2.out.cells
  have ll := L2.out.lt
  cases hlg : largeB es.length ts.length with
  | true =>
    clear hlg
    go_wp2_with fail
    go_ret
    exact ⟨rfl, L2.out.b⟩
  | false =>
    obtain ⟨hel, htl⟩ := large_no hlg
    clear hlg
    by_cases hll : 60 < l.length
    · go_wp2_with fail
      go_ret
      exact ⟨rfl, L2.out.b⟩
    · have O := Lib.hid (own_any w2 EA TA es.length ec tc ts (HT.out.below (Nat.le_refl _) L2.out.b) htl)
      go_wp2_with fail
      refine O.out.mono ?_
      rintro e w3 ⟨v, rfl, ho, hb⟩
      have L3 := Lib.hid (L2.out.call hb)
      obtain ⟨TB, uc, rfl⟩ := own_slice ho
      have HU := Lib.hid (Row.of_own ho)
      clear hb ho O L2 c0 c1 ll
      have hz3 := L3.out.lt
      have X5 := Lib.hid (XF.mk (X := w3.heap.size) (L3.out.alloc (.cells #[.slice EA es.length ec, .slice TB ts.length uc] 38)) (heap_new _ _))
      have HU5 := Lib.hid (HU.out.below (Nat.le_refl _) ((Below.refl _ _).alloc (Nat.le_refl _) (.cells #[.slice EA es.length ec, .slice TB ts.length uc] 38)))
      obtain ⟨W5, hW5⟩ : ∃ W5, W5 = w3.alloc (.cells #[.slice EA es.length ec, .slice TB ts.length uc] 38) := ⟨_, rfl⟩
      rw [← hW5] at X5 HU5
      have HA := Lib.hid (all_any W5 EA TA A es.length ec tc c ts l (HT.out.below (Nat.le_refl _) X5.out.l.b) (by omega) (HR.out.below (Nat.le_refl _) X5.out.l.b) (by omega))
      rw [hW5] at HA X5 HU5
      clear HU hW5
      obtain ⟨c0, c1⟩ := L3.out.cells
      go_wp2_with fail
      refine HA.out.mono ?_
      rintro e w6 ⟨va, rfl, ho, hb⟩
      have hT6 := TS.mk (X5.out.call hb) (HU5.out.below (Nat.le_refl _) hb) (own_base ho (Nat.le_of_lt X5.out.lt))
      obtain ⟨GA, gc, rfl⟩ := own_slice ho
      have T6 := Lib.hid hT6
      clear ho hb hT6 HA HU5 X5 L3 c0 c1
      obtain ⟨X, hX⟩ : ∃ X, X = w3.heap.size := ⟨_, rfl⟩
      rw [← hX] at T6
      have AT := fun k h1 h2 => Lib.hid (allJ_at (n := es.length) (ts := ts) (l := l) (k := k) h1 h2)
      have AE := Lib.hid (congrArg List.length (allJ_all es.length ts l))
      have AL := allI_len es.length ts l
      have hXl : X < w6.heap.size := T6.out.x.ltx
      generalize allI es.length ts l = L at *
      rw [← hX]
      clear hz3 hX
      go_wp2_with fail
      go_loopw [9, 27] (fun n j wr => ∃ k : Nat, k ≤ l.length ∧ j = .int .i64 k ∧ n = .int .i64 (allJ es.length ts l k).length ∧ Hid (TS w X #[.slice EA es.length ec, .slice TA ts.length tc] #[.slice EA es.length ec, .slice TB ts.length uc] TB ts (.slice GA L.length gc) L wr)) (fun _ j _ => l.length - (intOf j).toNat)
      case atStart => exact ⟨0, Nat.zero_le _, rfl, rfl, T6⟩
      case round =>
        clear T6 hXl
        obtain ⟨k, hk, rfl, rfl, HI⟩ := hrel
        by_cases hlt : k < l.length
        · have hk0 : (0 : Int) ≤ (k : Int) := Int.natCast_nonneg _
          have hk1 : (k : Int) < (l.length : Int) := by omega
          have C := renabled_any wr EA TB A es.length ec uc c ts l k HI.out.u htl (HR.out.below (Nat.le_refl _) HI.out.x.l.b) (by omega)
          obtain ⟨⟨_, _⟩, c2, c3⟩ := HI.out.x.cells
          have lx := HI.out.x.ltx
          cases hen : enabledB es.length ts l (k : Int) with
          | true =>
            rw [hen] at C
            have HC := Lib.hid C
            have HN : Hid ((allJ es.length ts l (k + 1)).length = (allJ es.length ts l k).length + 1) := Lib.hid (by rw [allJ_yes hen]; simp)
            obtain ⟨hq1, hq2⟩ := (AT k hen hlt).out
            have HQ := Lib.hid hq2
            clear AT C hen hq2
            generalize (allJ es.length ts l k).length = q at *
            go_wp2_with fail
            refine HC.out.mono ?_
            rintro e w7 ⟨rfl, hb⟩
            have HI7 := Lib.hid (HI.out.call hb)
            obtain ⟨g, rfl, hgz, hcell⟩ := int_row HI7.out.a rfl hq1
            rw [HQ.out] at hcell
            clear hb HC HI c2 c3 lx
            go_wp2_with fail
            go_roundw
            case rel => exact ⟨k + 1, hlt, by go_num, by rw [HN.out]; go_num, HI7⟩
            case measure => simp [intOf]; omega
          | false =>
            rw [hen] at C
            have HC := Lib.hid C
            have HN : Hid ((allJ es.length ts l (k + 1)).length = (allJ es.length ts l k).length) := Lib.hid (by rw [allJ_no hen])
            clear AT C hen
            generalize (allJ es.length ts l k).length = q at *
            go_wp2_with fail
            refine HC.out.mono ?_
            rintro e w7 ⟨rfl, hb⟩
            have HI7 := Lib.hid (HI.out.call hb)
            clear hb HC HI c2 c3 lx
            go_wp2_with fail
            go_roundw
            case rel => exact ⟨k + 1, hlt, by go_num, by rw [HN.out], HI7⟩
            case measure => simp [intOf]; omega
        · obtain rfl : k = l.length := by omega
          rw [← AE.out]
          clear AT AE
          go_wp2_with fail
          obtain ⟨b1, hb1⟩ : ∃ b, enabledB es.length ts l i = b := ⟨_, rfl⟩
          obtain ⟨b2, hb2⟩ : ∃ b, fitsB es.length l = b := ⟨_, rfl⟩
          obtain ⟨n3, hn3⟩ : ∃ b, slackI es.length l = b := ⟨_, rfl⟩
          obtain ⟨b4, hb4⟩ : ∃ b, accB es.length l = b := ⟨_, rfl⟩
          obtain ⟨M, hM⟩ : ∃ M, es.map startM = M := ⟨_, rfl⟩
          have hMl : M.length = es.length := by rw [← hM]; simp
          have hM24 : M.length * 24 ≤ 140737488351232 := by omega
          have C1 : Hid (∀ W, TS w X #[.slice EA es.length ec, .slice TA ts.length tc] #[.slice EA es.length ec, .slice TB ts.length uc] TB ts (.slice GA L.length gc) L W → Calls Try.prog 31 #[.agg #[.slice EA es.length ec, .slice TA ts.length tc], .slice A l.length c, .int .i64 i] W (fun e w' => e = .returned (.bool b1) ∧ Below W.heap.size W w')) := Lib.hid (fun W h => by rw [← hb1]; exact enabled_any W EA TA A es.length ec tc c ts l i (HT.out.below (Nat.le_refl _) h.x.l.b) (by omega) (HR.out.below (Nat.le_refl _) h.x.l.b) (by omega))
          have D1 : Hid (∀ W, TS w X #[.slice EA es.length ec, .slice TA ts.length tc] #[.slice EA es.length ec, .slice TB ts.length uc] TB ts (.slice GA L.length gc) L W → Calls Try.prog 30 #[.agg #[.slice EA es.length ec, .slice TB ts.length uc], .slice A l.length c, .int .i64 i] W (fun e w' => e = .returned (.bool b1) ∧ Below W.heap.size W w')) := Lib.hid (fun W h => by rw [← hb1]; exact renabled_any W EA TB A es.length ec uc c ts l i h.u htl (HR.out.below (Nat.le_refl _) h.x.l.b) (by omega))
          have C2 : Hid (∀ W, TS w X #[.slice EA es.length ec, .slice TA ts.length tc] #[.slice EA es.length ec, .slice TB ts.length uc] TB ts (.slice GA L.length gc) L W → Calls Try.prog 32 #[.agg #[.slice EA es.length ec, .slice TA ts.length tc], .slice A l.length c] W (fun e w' => e = .returned (.bool b2) ∧ Below W.heap.size W w')) := Lib.hid (fun W h => by rw [← hb2]; exact fits_any W EA TA A es.length ec ts.length tc c l (HR.out.below (Nat.le_refl _) h.x.l.b) (by omega))
          have D2 : Hid (∀ W, TS w X #[.slice EA es.length ec, .slice TA ts.length tc] #[.slice EA es.length ec, .slice TB ts.length uc] TB ts (.slice GA L.length gc) L W → Calls Try.prog 33 #[.agg #[.slice EA es.length ec, .slice TB ts.length uc], .slice A l.length c] W (fun e w' => e = .returned (.bool b2) ∧ Below W.heap.size W w')) := Lib.hid (fun W h => by rw [← hb2]; exact rfits_any W EA TB A es.length ec ts.length uc c l (HR.out.below (Nat.le_refl _) h.x.l.b) (by omega))
          have C3 : Hid (∀ W, TS w X #[.slice EA es.length ec, .slice TA ts.length tc] #[.slice EA es.length ec, .slice TB ts.length uc] TB ts (.slice GA L.length gc) L W → Calls Try.prog 34 #[.agg #[.slice EA es.length ec, .slice TA ts.length tc], .slice A l.length c] W (fun e w' => e = .returned (.int .i64 n3) ∧ Below W.heap.size W w')) := Lib.hid (fun W h => by rw [← hn3]; exact slack_any W EA TA A es.length ec ts.length tc c l (HR.out.below (Nat.le_refl _) h.x.l.b) (by omega))
          have D3 : Hid (∀ W, TS w X #[.slice EA es.length ec, .slice TA ts.length tc] #[.slice EA es.length ec, .slice TB ts.length uc] TB ts (.slice GA L.length gc) L W → Calls Try.prog 35 #[.agg #[.slice EA es.length ec, .slice TB ts.length uc], .slice A l.length c] W (fun e w' => e = .returned (.int .i64 n3) ∧ Below W.heap.size W w')) := Lib.hid (fun W h => by rw [← hn3]; exact rslack_any W EA TB A es.length ec ts.length uc c l (HR.out.below (Nat.le_refl _) h.x.l.b) (by omega))
          have C4 : Hid (∀ W, TS w X #[.slice EA es.length ec, .slice TA ts.length tc] #[.slice EA es.length ec, .slice TB ts.length uc] TB ts (.slice GA L.length gc) L W → Calls Try.prog 36 #[.agg #[.slice EA es.length ec, .slice TA ts.length tc], .slice A l.length c] W (fun e w' => e = .returned (.bool b4) ∧ Below W.heap.size W w')) := Lib.hid (fun W h => by rw [← hb4]; exact acc_any W EA TA A es.length ec ts.length tc c l (HR.out.below (Nat.le_refl _) h.x.l.b) (by omega))
          have D4 : Hid (∀ W, TS w X #[.slice EA es.length ec, .slice TA ts.length tc] #[.slice EA es.length ec, .slice TB ts.length uc] TB ts (.slice GA L.length gc) L W → Calls Try.prog 37 #[.agg #[.slice EA es.length ec, .slice TB ts.length uc], .slice A l.length c] W (fun e w' => e = .returned (.bool b4) ∧ Below W.heap.size W w')) := Lib.hid (fun W h => by rw [← hb4]; exact racc_any W EA TB A es.length ec ts.length uc c l (HR.out.below (Nat.le_refl _) h.x.l.b) (by omega))
          have C5 : Hid (∀ W, TS w X #[.slice EA es.length ec, .slice TA ts.length tc] #[.slice EA es.length ec, .slice TB ts.length uc] TB ts (.slice GA L.length gc) L W → Calls Try.prog 39 #[.agg #[.slice EA es.length ec, .slice TA ts.length tc]] W (StartOf M W)) := Lib.hid (fun W h => by unfold StartOf; rw [hMl, ← hM]; exact start_any W EA TA ec ts.length tc es (HE.out.below (Nat.le_refl _) h.x.l.b) (by omega))
          have D5 : Hid (∀ W, TS w X #[.slice EA es.length ec, .slice TA ts.length tc] #[.slice EA es.length ec, .slice TB ts.length uc] TB ts (.slice GA L.length gc) L W → Calls Try.prog 40 #[.agg #[.slice EA es.length ec, .slice TB ts.length uc]] W (StartOf M W)) := Lib.hid (fun W h => by unfold StartOf; rw [hMl, ← hM]; exact rstart_any W EA TB ec ts.length uc es (HE.out.below (Nat.le_refl _) h.x.l.b) (by omega))
          have R0 := HI
          have t0 : ((L.length : Int) == (L.length : Int)) = true := by simp
          have t1 : (b1 == b1) = true := by simp
          have t2 : (b2 == b2) = true := by simp
          have t3 : (n3 == n3) = true := by simp
          have t4 : (b4 == b4) = true := by simp
          obtain ⟨wz, hwz⟩ : ∃ wz : World, wz = wr := ⟨_, rfl⟩
          rw [← hwz] at R0 ⊢
          clear hwz HI hb1 hb2 hn3 hb4 hM hMl hlt hk HE HT HR
          have r0 := R0.out
          go_region_held3 (fun W => TS w X #[.slice EA es.length ec, .slice TA ts.length tc] #[.slice EA es.length ec, .slice TB ts.length uc] TB ts (.slice GA L.length gc) L W ∧ W.cell? ⟨w.heap.size, 0, none⟩ = some (.slice EA es.length ec) ∧ W.cell? ⟨w.heap.size, 1, none⟩ = some (.slice TA ts.length tc) ∧ W.cell? ⟨X, 0, none⟩ = some (.slice EA es.length ec) ∧ W.cell? ⟨X, 1, none⟩ = some (.slice TB ts.length uc))
            (((try go_split_ands); (first | exact ts_all (by with_reducible assumption) | exact ts_all (ts_drew (by with_reducible assumption)) | exact ts_all (ts_call (by with_reducible assumption) (by with_reducible assumption)))))
            (first
              | (go_at_call 31; go_split_ands; refine (C1.out _ (by with_reducible assumption)).mono ?_; rintro e wk1 ⟨rfl, hk1⟩)
              | (go_at_call 30; go_split_ands; refine (D1.out _ (by with_reducible assumption)).mono ?_; rintro e wm1 ⟨rfl, hm1⟩)
              | (go_at_call 32; go_split_ands; refine (C2.out _ (by with_reducible assumption)).mono ?_; rintro e wk2 ⟨rfl, hk2⟩)
              | (go_at_call 33; go_split_ands; refine (D2.out _ (by with_reducible assumption)).mono ?_; rintro e wm2 ⟨rfl, hm2⟩)
              | (go_at_call 34; go_split_ands; refine (C3.out _ (by with_reducible assumption)).mono ?_; rintro e wk3 ⟨rfl, hk3⟩)
              | (go_at_call 35; go_split_ands; refine (D3.out _ (by with_reducible assumption)).mono ?_; rintro e wm3 ⟨rfl, hm3⟩)
              | (go_at_call 36; go_split_ands; refine (C4.out _ (by with_reducible assumption)).mono ?_; rintro e wk4 ⟨rfl, hk4⟩)
              | (go_at_call 37; go_split_ands; refine (D4.out _ (by with_reducible assumption)).mono ?_; rintro e wm4 ⟨rfl, hm4⟩)
              | (go_at_call 39; go_split_ands; refine (C5.out _ (by with_reducible assumption)).mono ?_; rintro e wk5 ⟨v5, rfl, o5, hk5⟩; obtain ⟨va5, vc5, rfl⟩ := own_slice o5)
              | (go_at_call 40; go_split_ands; refine (D5.out _ (by with_reducible assumption)).mono ?_; rintro e wm5 ⟨v6, rfl, o6, hm5⟩; obtain ⟨va6, vc6, rfl⟩ := own_slice o6)
              | (go_at_call 38; go_split_ands; refine (rsame_self va5 va6 vc5 vc6 M wm5 (Row.of_own (own_below o5 hm5)) (Row.of_own o6) hM24).mono ?_; rintro e wm6 ⟨rfl, hm6⟩))
          have R13 := Lib.hid (ts_call hm6 (ts_call hm5 (ts_call hk5 (ts_call hm4 (ts_call hk4 (ts_call hm3 (ts_call hk3 (ts_call hm2 (ts_call hk2 (ts_call hm1 (ts_call hk1 (ts_drew R0.out))))))))))))
          go_wp2_with fail
          go_ret
          exact ⟨rfl, R13.out.x.l.b⟩

theorem own : ownKnob Try.prog.godebug = none := by kernel_rfl
set_option maxRecDepth 100000 in
theorem lifted (os : Os) (started : os.Started) (H : Type) (enc : TypeId × Value → H) :
    ReturnsInHanded {} Try.checked os 7 .any (Rows.markTellsSpec.pre6 enc Try.prog Try.f7 Rows.markTellsRow.domain false) (Rows.markTellsSpec.post enc Try.prog Try.f7 false true false false) := by
  refine returnsInHanded_of_change_sized (C := Try.checked) own started (by kernel_rfl) Try.func7
    (ChangeSpec.witness6 (enc := enc) (C := Try.checked) false ⟨#[], #[.agg #[.slice none 0 0, .slice none 0 0], .slice none 0 0, .int .i64 0], []⟩ 8 (by kernel_rfl) (by kernel_rfl) (by kernel_rfl) (by kernel_rfl)) ?_
  intro W base args ds gs before hval0 hW _ hsz0 _
  have hsz : (DataW.weightsEach Try.prog (Try.f7.params.toList ++ Rows.markTellsSpec.plain.varTypes Try.prog) (ds ++ gs)).all (· ≤ reachBytes) = true := hsz0
  have hval : ∀ (j : Nat) t v, Try.f7.params[j]? = some t → args[j]? = some v → Value.okWide Try.prog W .any base t v := hval0
  have hW' := hW
  obtain ⟨p, q, hA0, hV, rfl, _, _⟩ := hW
  have hA : DataW.TrodAll enc Try.prog W 0 (fun _ => true) true Try.f7.params.toList args.toList ds p := hA0
  rw [Try.params7] at hA hval hsz
  obtain ⟨v0, vs0, d0, ds0, p0, q0, hargs, rfl, rfl, h0, r0⟩ := trodAll_cons hA
  obtain ⟨v1, vs1, d1, ds1, p1, q1, e1, rfl, rfl, h1, r1⟩ := trodAll_cons r0
  obtain ⟨v2, vs2, d2, ds2, p2, q2, e2, rfl, rfl, h2, r2⟩ := trodAll_cons r1
  obtain ⟨rfl, rfl, rfl⟩ := trodAll_nil r2
  subst e2
  subst e1
  obtain rfl : args = #[v0, v1, v2] := by cases args; simp_all
  obtain ⟨rfl, rfl⟩ := trodVars_none hV
  have hw0 : Wt Try.prog 32 d0 := Wt.of hsz (j := 0) rfl rfl
  obtain ⟨EA, TA, ec, tc, es, ts, rfl, he, ht, hel, htl, hge, hgt⟩ := open_flat (hval 0 _ v0 rfl rfl) h0 hw0
  have hw1 : Wt Try.prog 57 d1 := Wt.of hsz (j := 1) rfl rfl
  obtain ⟨A1, c1, l1, rfl, hr1, hlc1, hA1⟩ := open_mkn (hval 1 _ v1 rfl rfl) h1 hw1
  obtain ⟨i2, rfl, hw2⟩ := open_int (hval 2 _ v2 rfl rfl) h2
  clear hA0 hval0 hsz0
  simp only [List.append_nil] at hW'
  have hlt0 := fun x hx => hW'.lt x hx
  refine (walk W EA TA A1 ec tc c1 es ts l1 i2 he ht hr1).mono fun e W' ⟨he2, hg⟩ => ?_
  subst he2
  have hargs := (trodAll_cons_mk (Below.trod progLaid (by kernel_rfl) (of_decide_eq_true (by kernel_rfl)) h0 hg (fun x hx => hlt0 x (List.mem_append_left _ hx))) (trodAll_cons_mk (Below.trod progLaid (by kernel_rfl) (of_decide_eq_true (by kernel_rfl)) h1 hg (fun x hx => hlt0 x (List.mem_append_right _ (List.mem_append_left _ hx)))) (trodAll_cons_mk (Below.trod progLaid (by kernel_rfl) (of_decide_eq_true (by kernel_rfl)) h2 hg (fun x hx => hlt0 x (List.mem_append_right _ (List.mem_append_right _ (hx))))) (trodAll_mk0 (enc := enc) (P := Try.prog) (w := W')))))
  simp only [List.append_nil] at hargs
  exact ⟨_, rfl, _, _, _, [], p0 ++ (p1 ++ (p2)), [], hW', trodAll_cons_mk (shut_bool Try.underlying4 _) trodAll_mk0, hargs, rfl, hg.frame _, fun h => by cases h⟩

theorem proved : Rows.MarkTellsSaid :=
  OpenClaim.holds_of_wide 7 Try.f7 rfl rfl rfl rfl rfl rfl rfl ⟨rfl, rfl, rfl, rfl, rfl⟩ rfl rfl rfl rfl rfl (by kernel_rfl) Try.func7 (by kernel_rfl)
    (of_decide_eq_true (by kernel_rfl)) (by unfold Func.isWrapper; first | (rw [if_pos (by decide +kernel)]; kernel_rfl) | (rw [if_neg (by decide +kernel)]; exact ⟨rfl, rfl⟩))
    (fun os started H enc _ => lifted os started H enc)
end Go.Proofs.Ytplplkchibefjaa.M5.Tells
