/-
  LexPlaces: for every text the law answers true, and its argument reads as it did. Conditions: none.
-/
import Derived.Test.YtfainhgonaghfaaRows
import Derived.Test.YtfainhgonaghfaaLexF
import Derived.Test.YtfainhgonaghfaaLexQ
import Derived.ProofKit
import Derived.OpenShut
import Derived.ShutString
namespace Go.Proofs.Ytfainhgonaghfaa.lexPlaces
open Go.ChangeShapes Go.WideShapes Go.ChangeAt Go.RowKit
open Go.ChangeMaps (open_string shut_string)

theorem own : ownKnob Try.prog.godebug = none := by kernel_rfl

theorem places_cons {s x : ByteArray} {l : List Tok} {k fr : Nat} {t : Tok} (hlt : k < l.length) (htk : l[k]? = some t) (hx : x = ⟨t.text.toArray⟩) (h : Placed s.data.toList fr (l.drop k)) :
    fr ≤ t.loc ∧ t.loc + x.size ≤ s.size ∧ ((s.extract t.loc (t.loc + x.size)).toList == x.toList) = true ∧ (x.toList == []) = false ∧ Hid (∀ (j : Nat) (h : j < s.size), fr ≤ j → j < t.loc → gapB s[j] = true) ∧ Hid (Placed s.data.toList (t.loc + x.size) (l.drop (k + 1))) := by
  obtain ⟨_, rfl⟩ := List.getElem?_eq_some_iff.1 htk
  rw [List.drop_eq_getElem_cons hlt] at h
  obtain ⟨h1, h2, h3, h4, h5, h6⟩ := h
  have hxs : x.size = l[k].text.length := by rw [hx, Lib.size_eq]
  have hxl : x.toList = l[k].text := by rw [hx, Lib.toList_data]
  rw [bytes_len] at h2
  refine ⟨h1, by rw [hxs]; exact h2, ?_, ?_, fun j hj => h5 j (by rw [bytes_len]; exact hj), by rw [hxs]; exact h6⟩
  · rw [hxl, Lib.toList_data, Lib.extract_data, hxs, beq_iff_eq, show l[k].loc + l[k].text.length - l[k].loc = l[k].text.length from by omega]; exact h3
  · rw [hxl]; simpa using h4

theorem gap_cases {c : UInt8} (h : gapB c = true) : (((c.toNat : Int) != 32) = false ∧ True) ∨ (((c.toNat : Int) != 32) = true ∧ ((c.toNat : Int) != 10) = false) := by
  simp only [gapB, Bool.or_eq_true, decide_eq_true_eq] at h
  rcases h with h | h
  · left; refine ⟨?_, trivial⟩; rw [bne_eq_false_iff_eq]; omega
  · right; rw [bne_iff_ne, bne_eq_false_iff_eq]; omega

def Rel (s : ByteArray) (l : List Tok) (w w2 : World) (f i : Value) (wr : World) : Prop :=
  ∃ k from_ : Nat, k ≤ l.length ∧ from_ ≤ s.size ∧ f = .int .i64 from_ ∧ i = .int .i64 k ∧ Below w2.heap.size w2 wr ∧ Below w.heap.size w wr ∧ Hid (Placed s.data.toList from_ (l.drop k))

set_option maxHeartbeats 2000000 in
set_option maxRecDepth 100000 in
theorem walk_ok (s : ByteArray) (hz : s.size ≤ 4096) (l : List Tok) (hl : lexL s.data.toList = (l, 0, 0)) (hn : l.length ≤ 5000) (w : World) :
    Calls Try.prog 5 #[.string s] w fun e w' => e = .returned (.bool true) ∧ Below w.heap.size w w' := by
  have HP := Lib.hid (lexL_placed hl)
  have C : ∀ W, Hid (Calls Try.prog 9 #[.string s] W (LexOf (l, 0, 0) W)) := fun W => Lib.hid (by rw [← hl]; exact lex_any s W (by omega))
  clear hl
  go_enter Try.func5, Try.ntmps5
  go_wp2_with fail
  refine (awake_any _).mono ?_
  rintro e w1 ⟨rfl, hb1⟩
  go_wp2_with fail
  refine (C _).out.mono ?_
  rintro e w2 ⟨v, rfl, hown, hb2⟩
  simp only at hown
  obtain ⟨va, vc, rfl⟩ := own_slice hown
  have ht := Toks.of_own hown
  have hbw : Below w.heap.size w w2 := hb1.trans (hb2.mono hb1.size)
  clear hown hb1 hb2
  go_wp2_with fail
  go_loopw [6, 8, 32] (fun f _ i wr => Rel s l w w2 f i wr) (fun _ _ i _ => l.length - (intOf i).toNat)
  case atStart => exact ⟨0, 0, Nat.zero_le _, Nat.zero_le _, rfl, rfl, Below.refl _ _, hbw, HP⟩
  case round =>
    obtain ⟨k, fr, hk, hfr, rfl, rfl, hb2, hbel, HR⟩ := hrel
    by_cases hlt : k < l.length
    · obtain ⟨b, off, t, x, rfl, hbl, htk, hx, c0, c1, c2, c3⟩ := ht.at_ hlt
      rw [← hb2.cell (p := ⟨b, _, none⟩) hbl] at c0 c1 c2 c3
      obtain ⟨p1, p2, p3, p4, HG, HR'⟩ := places_cons hlt htk hx HR.out
      clear hx htk HR
      go_wp2_with fail
      have e1 : (x.toList == []) = false := p4
      have e2 : decide (t.loc < fr) = false := by simp; omega
      have e3 : decide ((s.size : Int) < (t.loc : Int) + (x.size : Int)) = false := by simp; omega
      have e4 : IntKind.i64.wrap ((t.loc : Int) + (x.size : Int)) = (t.loc : Int) + (x.size : Int) := IntWalk.i64_in _ (by omega)
      have e5 : ((t.loc : Int) + (x.size : Int)).toNat = t.loc + x.size := by omega
      have e6 : (0 : Int) ≤ (t.loc : Int) + (x.size : Int) := by omega
      go_quiet (fail)
      clear e1 e2 e3 e4 e5 e6 p3 p4 c0 c1 c2 c3
      go_wp2_with fail
      go_loop [6] (fun f => ∃ j : Nat, fr ≤ j ∧ j ≤ t.loc ∧ f = .int .i64 j) (fun f => t.loc - (intOf f).toNat)
      case atStart => exact ⟨fr, Nat.le_refl _, p1, rfl⟩
      case round =>
        obtain ⟨j, hj1, hj2, rfl⟩ := hrel
        by_cases hjt : j < t.loc
        · have hjs : j < s.size := by omega
          rcases gap_cases (HG.out j hjs hj1 hjt) with ⟨g1, _⟩ | ⟨g1, g2⟩
          all_goals
            go_wp2_with fail
            go_round
            case rel => exact ⟨j + 1, by omega, hjt, by go_num⟩
            case measure => simp [intOf]; omega
        · obtain rfl : j = t.loc := by omega
          go_wp2_with fail
          go_roundw
          case rel => exact ⟨k + 1, t.loc + x.size, hlt, p2, by go_num, by go_num, below_draws (hb2.alloc hb2.size _) nq, below_draws (hbel.alloc hbel.size _) nq, HR'⟩
          case measure => simp [intOf]; omega
    · have HG : Hid (∀ (j : Nat) (h : j < s.size), fr ≤ j → gapB s[j] = true) := Lib.hid (by
        have h := HR.out
        rw [List.drop_eq_nil_of_le (by omega)] at h
        exact fun j hj => h j (by rw [bytes_len]; exact hj))
      clear HR
      go_wp2_with fail
      go_loop [6] (fun f => ∃ j : Nat, fr ≤ j ∧ j ≤ s.size ∧ f = .int .i64 j) (fun f => s.size - (intOf f).toNat)
      case atStart => exact ⟨fr, Nat.le_refl _, hfr, rfl⟩
      case round =>
        obtain ⟨j, hj1, hj2, rfl⟩ := hrel
        by_cases hjs : j < s.size
        · rcases gap_cases (HG.out j hjs hj1) with ⟨g1, _⟩ | ⟨g1, g2⟩
          all_goals
            go_wp2_with fail
            go_round
            case rel => exact ⟨j + 1, by omega, hjs, by go_num⟩
            case measure => simp [intOf]; omega
        · go_wp2_with fail
          go_ret
          exact ⟨rfl, hbel⟩

set_option maxHeartbeats 1000000 in
theorem walk (s : ByteArray) (hs : s.size ≤ maxLen) (w : World) :
    Calls Try.prog 5 #[.string s] w fun e w' => e = .returned (.bool true) ∧ Below w.heap.size w w' := by
  unfold maxLen at hs
  by_cases hz : s.size ≤ 4096
  · have hlen : s.data.toList.length < 5000 := by rw [bytes_len]; omega
    rcases lexL_codes s.data.toList hlen with ⟨l, hl⟩ | ⟨k, hl, hk⟩
    · exact walk_ok s hz l hl (lexL_few hlen hl) w
    · have C : ∀ W, Hid (Calls Try.prog 9 #[.string s] W (LexOf ([], k, 2) W)) := fun W => Lib.hid (by rw [← hl]; exact lex_any s W (by omega))
      rw [bytes_len] at hk
      clear hl
      go_enter Try.func5, Try.ntmps5
      go_wp2_with fail
      refine (awake_any _).mono ?_
      rintro e w1 ⟨rfl, hb1⟩
      go_wp2_with fail
      refine (C _).out.mono ?_
      rintro e w2 ⟨v, rfl, _, hb2⟩
      go_wp2_with fail
      go_ret
      exact ⟨ret_bool (by simp), hb1.trans (hb2.mono hb1.size)⟩
  · go_enter Try.func5, Try.ntmps5
    go_wp2_with fail
    refine (awake_any _).mono ?_
    rintro e w1 ⟨rfl, hb1⟩
    go_wp2_with fail
    go_ret
    exact ⟨rfl, hb1⟩

set_option maxRecDepth 100000 in
theorem lifted (os : Os) (started : os.Started) (H : Type) (enc : TypeId × Value → H) :
    ReturnsInHanded {} Try.checked os 5 .any (Rows.lexPlacesSpec.pre6 enc Try.prog Try.f5 Rows.lexPlacesRow.domain false) (Rows.lexPlacesSpec.post enc Try.prog Try.f5 false true false false) := by
  refine returnsInHanded_of_change (C := Try.checked) own started (by kernel_rfl) Try.func5
    (ChangeSpec.witness6 (enc := enc) (C := Try.checked) false ⟨#[], #[.string ByteArray.empty], []⟩ 8 (by kernel_rfl) (by kernel_rfl) (by kernel_rfl) (by kernel_rfl)) ?_
  intro W base args ds gs before hval0 hW _ _
  have hval : ∀ (j : Nat) t v, Try.f5.params[j]? = some t → args[j]? = some v → Value.okWide Try.prog W .any base t v := hval0
  have hW' := hW
  obtain ⟨p, q, hA0, hV, rfl, _, _⟩ := hW
  have hA : DataW.TrodAll enc Try.prog W 0 (fun _ => true) true Try.f5.params.toList args.toList ds p := hA0
  rw [Try.params5] at hA hval
  obtain ⟨v0, vs0, d0, ds0, p0, q0, hargs, rfl, rfl, h0, r0⟩ := trodAll_cons hA
  obtain ⟨rfl, rfl, rfl⟩ := trodAll_nil r0
  obtain rfl : args = #[v0] := by cases args; simp_all
  obtain ⟨rfl, rfl⟩ := trodVars_none hV
  obtain ⟨a0, rfl, rfl, rfl, w0⟩ := open_string Try.underlying9 (hval 0 9 v0 rfl rfl) h0
  clear hA0 hval0
  simp only [List.append_nil] at hW'
  refine (walk a0 w0 W).mono fun e W' ⟨he, hg⟩ => ?_
  subst he
  exact ⟨_, rfl, _, _, _, [], [], [], hW', trodAll_cons_mk (shut_bool Try.underlying4 _) trodAll_mk0, trodAll_cons_mk (shut_string Try.underlying9 w0) trodAll_mk0, rfl, hg.frame _, fun h => by cases h⟩

theorem proved : Rows.LexPlacesSaid :=
  OpenClaim.holds_of_wide 5 Try.f5 rfl rfl rfl rfl rfl rfl rfl ⟨rfl, rfl, rfl, rfl, rfl⟩ rfl rfl rfl rfl rfl (by kernel_rfl) Try.func5 (by kernel_rfl)
    (of_decide_eq_true (by kernel_rfl)) (by unfold Func.isWrapper; first | (rw [if_pos (by decide +kernel)]; kernel_rfl) | (rw [if_neg (by decide +kernel)]; exact ⟨rfl, rfl⟩))
    (fun os started H enc _ => lifted os started H enc)
end Go.Proofs.Ytfainhgonaghfaa.lexPlaces
