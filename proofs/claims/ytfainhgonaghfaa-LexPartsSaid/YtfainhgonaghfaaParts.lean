/-
  LexParts: for every text the law answers true, and its argument reads as it did. Conditions: none.
-/
import Derived.Test.YtfainhgonaghfaaRows
import Derived.Test.YtfainhgonaghfaaLexF
import Derived.Test.YtfainhgonaghfaaLexP
import Derived.Test.YtfainhgonaghfaaLexR
import Derived.ProofKit
import Derived.OpenShut
import Derived.ShutString
namespace Go.Proofs.Ytfainhgonaghfaa.lexParts
open Go.ChangeShapes Go.WideShapes Go.ChangeAt Go.RowKit
open Go.ChangeMaps (open_string shut_string)

theorem own : ownKnob Try.prog.godebug = none := by kernel_rfl

/-- A token held against itself. -/
theorem neq_same (a b c : Int) (x : ByteArray) (w : World) :
    (binOp .neq 35 (.agg #[.int .i64 a, .string x, .int .i64 b, .int .i64 c]) (.agg #[.int .i64 a, .string x, .int .i64 b, .int .i64 c])).run Try.prog w = .ok (.bool false) w := by
  have u3 := Try.underlying3
  have a3 := Try.isAgg3
  have z3 := Try.sizeOf3
  have u9 := Try.underlying9
  have a9 := Try.isAgg9
  have z9 := Try.sizeOf9
  have hS : Try.prog.underlying 35 = some (.struct (Try.prog.fieldsOf 35)) := by kernel_rfl
  have hp : Try.prog.stoodInHeld 35 = false := by kernel_rfl
  rw [run_neq_struct, show (10000 : Nat) = 9999 + 1 from rfl, run_equalIn_agg w 9999 35 _ _ hS hp]
  simp only [Program.fieldsOf, Try.underlying35]
  go_simp

/-- The part at place q: its slice, and its tokens. -/
theorem part_at {w3 : World} {B c q k last : Nat} {l : List Tok} {pa oa : Option Addr} {ss : List (Nat × Nat)} {vs : List Value} (hq : q < ss.length) (hv : w3.ownsRow B 23 1 (.slice pa ss.length c) ss.length vs) (hs : SegVs oa ss vs) (h : Segs l k (ss.drop q) last) :
    ∃ (gv m : Nat) (ad : Addr), pa = some ⟨gv, 0, none⟩ ∧ gv < w3.heap.size ∧ w3.cell? ⟨gv, q, none⟩ = some (.slice (some ad) m m) ∧ (0 < m → ∃ b off, oa = some ⟨b, off, none⟩ ∧ ad = ⟨b, off + k * 4, none⟩) ∧ k + m < l.length ∧
      Hid (∀ (j : Nat) (t : Tok), l[j]? = some t → k ≤ j → j < k + m → t.kind ≠ 3) ∧ (∃ t, Hid (l[k + m]? = some t) ∧ t.kind = 3) ∧ Hid (Segs l (k + m + 1) (ss.drop (q + 1)) last) := by
  have hsq : ss[q]? = some ss[q] := List.getElem?_eq_getElem hq
  generalize ss[q] = s0 at hsq
  obtain ⟨a, b⟩ := s0
  obtain ⟨h1, h2, h3, ⟨t, h4, h4'⟩, h5⟩ := Segs.cons_ hsq h
  simp only at h1 h2 h3 h4 h5
  subst h1
  obtain ⟨m, rfl⟩ : ∃ m, b = a + m := ⟨b - a, by omega⟩
  obtain ⟨v0, hv0, ad, rfl, had⟩ := hs.2 q _ hsq
  simp only [Nat.add_sub_cancel_left] at hv0 had
  rcases hv.2 with ⟨_, h0⟩ | ⟨g, cap, cur, hsl, _, hg, _⟩
  · omega
  · injection hsl with hsl _ _
    have hc := hv.cells (g := g) (by rw [hsl]; rfl) q _ hv0
    rw [Addr.add_lit, Nat.zero_add] at hc
    exact ⟨g, m, ad, hsl, (Array.getElem?_eq_some_iff.1 hg).1, hc, fun hm => had (by omega), (List.getElem?_eq_some_iff.1 h4).1, h3, ⟨t, h4, h4'⟩, h5⟩

def Rel (l : List Tok) (ss : List (Nat × Nat)) (last : Nat) (w w3 : World) (i p : Value) (wr : World) : Prop :=
  ∃ k q : Nat, q ≤ ss.length ∧ k ≤ l.length ∧ i = .int .i64 k ∧ p = .int .i64 q ∧ Below w3.heap.size w3 wr ∧ Below w.heap.size w wr ∧ Hid (Segs l k (ss.drop q) last)

set_option maxHeartbeats 2000000 in
set_option maxRecDepth 100000 in
theorem walk_ok (s : ByteArray) (hz : s.size ≤ 4096) (l : List Tok) (hl : lexL s.data.toList = (l, 0, 0)) (hn : l.length ≤ 5000) (w : World) :
    Calls Try.prog 7 #[.string s] w fun e w' => e = .returned (.bool true) ∧ Below w.heap.size w w' := by
  have HP := Lib.hid (segs_all l)
  have C : ∀ W, Hid (Calls Try.prog 9 #[.string s] W (LexOf (l, 0, 0) W)) := fun W => Lib.hid (by rw [← hl]; exact lex_any s W (by omega))
  have hm : Try.prog.eqGuardType Try.prog.depth 35 = false := by kernel_rfl
  have hne := neq_same
  clear hl
  go_enter Try.func7, Try.ntmps7
  go_wp2_with fail
  refine (awake_any _).mono ?_
  rintro e w1 ⟨rfl, hb1⟩
  go_wp2_with fail
  refine (C _).out.mono ?_
  rintro e w2 ⟨v, rfl, hown, hb2⟩
  simp only at hown
  obtain ⟨va, vc, rfl⟩ := own_slice hown
  have ht := Toks.of_own hown
  have hbw : Below w.heap.size w w2 := hb1.trans (hb2.mono hb1.size)
  clear hown hb1 hb2
  go_wp2_with fail
  refine (statements_any va vc l w2 ht (by omega)).mono ?_
  rintro e w3 ⟨hb3, ⟨t, htk, rfl⟩ | ⟨hlast, v, vs, oa, oc, rfl, hv, hsv, hown⟩⟩
  · have hlen : (segS l 0 0).2 < l.length := (List.getElem?_eq_some_iff.1 htk).1
    have hlt : l.length - 1 < l.length := by omega
    obtain ⟨b, off, t', x, rfl, hbl, htk', hx, c0, c1, c2, c3⟩ := (ht.below hb3).at_ hlt
    have h3 : ((t'.kind : Int) != 3) = true := by rw [bne_iff_ne]; have := HP.out.behind _ _ htk' (by omega); omega
    have e1 : (1 : Nat) ≤ l.length := by omega
    clear hx htk htk' HP
    go_wp2_with fail
    go_ret
    exact ⟨rfl, hbw.trans (hb3.mono hbw.size)⟩
  · have hpn : (segS l 0 0).1.length ≤ 5000 := by have := segS_few l 0 0; omega
    generalize hS : segS l 0 0 = S at *
    have HS := Lib.hid hS
    clear hS
    have hbw3 : Below w.heap.size w w3 := hbw.trans (hb3.mono hbw.size)
    have ht3 := ht.below hb3
    have hto := Toks.of_own hown
    rw [hsv.1] at hv
    obtain ⟨pa, pc, rfl⟩ := own_slice hv
    have HV := Lib.hid hv
    have HSV := Lib.hid hsv
    clear hv hsv hown ht hb3 hbw
    go_wp2_with fail
    go_loopw [9, 11, 13, 50] (fun i _ _ p wr => Rel l S.1 S.2 w w3 i p wr) (fun _ _ _ p _ => S.1.length - (intOf p).toNat)
    case atStart => exact ⟨0, 0, Nat.zero_le _, Nat.zero_le _, rfl, rfl, Below.refl _ _, hbw3, HP⟩
    case round =>
      obtain ⟨k, q, hq, hk, rfl, rfl, hb, hbel, HR⟩ := hrel
      obtain ⟨wo, rfl⟩ : ∃ wo : World, wo = wr := ⟨_, rfl⟩
      by_cases hlt : q < S.1.length
      · obtain ⟨gv, m, ad, rfl, hgv, hcell, had, hkm, HN, ⟨ts, hts, hk3⟩, HR'⟩ := part_at hlt HV.out HSV.out HR.out
        rw [← hb.cell (p := ⟨gv, _, none⟩) hgv] at hcell
        clear HR HV
        go_wp2_with fail
        go_loopw [9, 13, 56] (fun i _ p wr => ∃ j r : Nat, r ≤ m ∧ j ≤ k + r ∧ k + r ≤ j ∧ i = .int .i64 j ∧ p = .int .i64 r ∧ Below w3.heap.size w3 wr ∧ Below w.heap.size w wr) (fun _ _ p _ => m - (intOf p).toNat)
        case atStart => exact ⟨k, 0, Nat.zero_le _, Nat.le_refl _, Nat.le_refl _, rfl, rfl, hb, hbel⟩
        case round =>
          obtain ⟨j, r, hr, hj1, hj2, rfl, rfl, hb', hbel'⟩ := hrel
          by_cases hrm : r < m
          · have hjl : j < l.length := by omega
            obtain ⟨b, off, rfl, rfl⟩ := had (by omega)
            obtain ⟨_, _, t, x, he, hbl, htj, hx, c0, c1, c2, c3⟩ := hto.at_ hjl
            injection he with he
            injection he with he1 he2 _
            subst he1 he2
            obtain ⟨b', off', t', x', rfl, hbl', htj', hx', d0, d1, d2, d3⟩ := ht3.at_ hjl
            rw [htj] at htj'
            injection htj' with htj'
            subst htj'
            rw [← hx] at hx'
            subst hx'
            have hk3' := HN.out j t htj (by omega) (by omega)
            rw [show off + j * 4 = off + k * 4 + r * 4 from by omega] at c0 c1 c2 c3
            rw [← hb'.cell (p := ⟨b, _, none⟩) hbl] at c0 c1 c2 c3
            rw [← hb'.cell (p := ⟨b', _, none⟩) hbl'] at d0 d1 d2 d3
            have hbw' : b' < wr.heap.size := by have := hb'.size; omega
            have e1 : decide (l.length ≤ j) = false := by simp; omega
            have e2 : ((t.kind : Int) == 3) = false := by rw [beq_eq_false_iff_ne]; omega
            clear hx htj
            go_wp2_with fail
            go_quiet (fail)
            clear c0 c1 c2 c3 d0 d1 d2 d3 e1 e2
            go_wp2_with fail
            go_roundw
            case rel => exact ⟨j + 1, r + 1, hrm, by omega, by omega, by go_num, by go_num, below_draws (hb'.alloc hb'.size _) nq, below_draws (hbel'.alloc hbel'.size _) nq⟩
            case measure => simp [intOf]; omega
          · have hjl : j < l.length := by omega
            obtain ⟨b', off', t', x', rfl, hbl', htj', hx', d0, d1, d2, d3⟩ := ht3.at_ hjl
            have htt : t' = ts := by
              have h := hts.out
              rw [show k + m = j from by omega, htj'] at h
              injection h
            subst htt
            rw [← hb'.cell (p := ⟨b', _, none⟩) hbl'] at d0
            have e1 : decide (l.length ≤ j) = false := by simp; omega
            have e2 : ((t'.kind : Int) != 3) = false := by rw [bne_eq_false_iff_eq]; omega
            have HR2 : Hid (Segs l (j + 1) (S.1.drop (q + 1)) S.2) := Lib.hid (by rw [show j + 1 = k + m + 1 from by omega]; exact HR'.out)
            clear hx' htj' d1 d2 d3
            go_wp2_with fail
            go_roundw
            case rel => exact ⟨j + 1, q + 1, hlt, hjl, by go_num, by go_num, hb', hbel', HR2⟩
            case measure => simp [intOf]; omega
      · have HF : Hid (k = S.2) := Lib.hid (by
          have h := HR.out
          rw [List.drop_eq_nil_of_le (by omega)] at h
          exact h.1)
        have hkl : ((k : Int) == (l.length : Int)) = true := by rw [beq_iff_eq]; have := HF.out; omega
        clear HR HF
        go_wp2_with fail
        go_ret
        exact ⟨rfl, hbel⟩
set_option maxHeartbeats 1000000 in
theorem walk (s : ByteArray) (hs : s.size ≤ maxLen) (w : World) :
    Calls Try.prog 7 #[.string s] w fun e w' => e = .returned (.bool true) ∧ Below w.heap.size w w' := by
  unfold maxLen at hs
  by_cases hz : s.size ≤ 4096
  · have hlen : s.data.toList.length < 5000 := by rw [bytes_len]; omega
    rcases lexL_codes s.data.toList hlen with ⟨l, hl⟩ | ⟨k, hl, hk⟩
    · exact walk_ok s hz l hl (lexL_few hlen hl) w
    · have C : ∀ W, Hid (Calls Try.prog 9 #[.string s] W (LexOf ([], k, 2) W)) := fun W => Lib.hid (by rw [← hl]; exact lex_any s W (by omega))
      rw [bytes_len] at hk
      clear hl
      go_enter Try.func7, Try.ntmps7
      go_wp2_with fail
      refine (awake_any _).mono ?_
      rintro e w1 ⟨rfl, hb1⟩
      go_wp2_with fail
      refine (C _).out.mono ?_
      rintro e w2 ⟨v, rfl, _, hb2⟩
      go_wp2_with fail
      go_ret
      exact ⟨ret_bool (by simp), hb1.trans (hb2.mono hb1.size)⟩
  · go_enter Try.func7, Try.ntmps7
    go_wp2_with fail
    refine (awake_any _).mono ?_
    rintro e w1 ⟨rfl, hb1⟩
    go_wp2_with fail
    go_ret
    exact ⟨rfl, hb1⟩

set_option maxRecDepth 100000 in
theorem lifted (os : Os) (started : os.Started) (H : Type) (enc : TypeId × Value → H) :
    ReturnsInHanded {} Try.checked os 7 .any (Rows.lexPartsSpec.pre6 enc Try.prog Try.f7 Rows.lexPartsRow.domain false) (Rows.lexPartsSpec.post enc Try.prog Try.f7 false true false false) := by
  refine returnsInHanded_of_change (C := Try.checked) own started (by kernel_rfl) Try.func7
    (ChangeSpec.witness6 (enc := enc) (C := Try.checked) false ⟨#[], #[.string ByteArray.empty], []⟩ 8 (by kernel_rfl) (by kernel_rfl) (by kernel_rfl) (by kernel_rfl)) ?_
  intro W base args ds gs before hval0 hW _ _
  have hval : ∀ (j : Nat) t v, Try.f7.params[j]? = some t → args[j]? = some v → Value.okWide Try.prog W .any base t v := hval0
  have hW' := hW
  obtain ⟨p, q, hA0, hV, rfl, _, _⟩ := hW
  have hA : DataW.TrodAll enc Try.prog W 0 (fun _ => true) true Try.f7.params.toList args.toList ds p := hA0
  rw [Try.params7] at hA hval
  obtain ⟨v0, vs0, d0, ds0, p0, q0, hargs, rfl, rfl, h0, r0⟩ := trodAll_cons hA
  obtain ⟨rfl, rfl, rfl⟩ := trodAll_nil r0
  obtain rfl : args = #[v0] := by cases args; simp_all
  obtain ⟨rfl, rfl⟩ := trodVars_none hV
  obtain ⟨a0, rfl, rfl, rfl, w0⟩ := open_string Try.underlying9 (hval 0 9 v0 rfl rfl) h0
  clear hA0 hval0
  simp only [List.append_nil] at hW'
  refine (walk a0 w0 W).mono fun e W' ⟨he, hg⟩ => ?_
  subst he
  exact ⟨_, rfl, _, _, _, [], [], [], hW', trodAll_cons_mk (shut_bool Try.underlying4 _) trodAll_mk0, trodAll_cons_mk (shut_string Try.underlying9 w0) trodAll_mk0, rfl, hg.frame _, fun h => by cases h⟩

theorem proved : Rows.LexPartsSaid :=
  OpenClaim.holds_of_wide 7 Try.f7 rfl rfl rfl rfl rfl rfl rfl ⟨rfl, rfl, rfl, rfl, rfl⟩ rfl rfl rfl rfl rfl (by kernel_rfl) Try.func7 (by kernel_rfl)
    (of_decide_eq_true (by kernel_rfl)) (by unfold Func.isWrapper; first | (rw [if_pos (by decide +kernel)]; kernel_rfl) | (rw [if_neg (by decide +kernel)]; exact ⟨rfl, rfl⟩))
    (fun os started H enc _ => lifted os started H enc)
end Go.Proofs.Ytfainhgonaghfaa.lexParts
