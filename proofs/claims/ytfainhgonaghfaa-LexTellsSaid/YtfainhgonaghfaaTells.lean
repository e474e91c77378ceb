/-
  LexTells: for every text the law answers true, and its argument reads as it did. Conditions: none.
-/
import Derived.Test.YtfainhgonaghfaaRows
import Derived.Test.YtfainhgonaghfaaRefN
import Derived.Test.YtfainhgonaghfaaOwnS
import Derived.ProofKit
import Derived.OpenShut
import Derived.ShutString
namespace Go.Proofs.Ytfainhgonaghfaa.lexTells
open Go.ChangeShapes Go.WideShapes Go.ChangeAt Go.RowKit
open Go.ChangeMaps (open_string shut_string)

theorem own : ownKnob Try.prog.godebug = none := by kernel_rfl

set_option maxHeartbeats 2000000 in
theorem walk (s : ByteArray) (hs : s.size ≤ maxLen) (w : World) :
    Calls Try.prog 3 #[.string s] w fun e w' => e = .returned (.bool true) ∧ Below w.heap.size w w' := by
  unfold maxLen at hs
  by_cases hz : s.size ≤ 4096
  · have hlen : s.data.toList.length < 5000 := by rw [bytes_len]; omega
    have hfew : (lexL s.data.toList).1.length ≤ 5000 := by
      rcases lexL_codes s.data.toList hlen with ⟨l, hl⟩ | ⟨k, hl, _⟩
      · rw [hl]; exact lexL_few hlen hl
      · rw [hl]; simp
    have C1 := fun W => Lib.hid (lex_any s W (by omega))
    have C2 := fun W => Lib.hid (ref_any s W (by omega))
    have C3 := fun W => Lib.hid (name_any s W (by omega))
    have C4 := fun W => Lib.hid (refName_any s W hz)
    generalize lexL s.data.toList = r at *
    obtain ⟨l, k, c⟩ := r
    generalize nameL s.data.toList = b at *
    simp only at hfew
    have e1 : ((k : Int) == (k : Int)) = true := by simp
    have e2 : ((c : Int) == (c : Int)) = true := by simp
    have e3 : (b == b) = true := by simp
    go_enter Try.func3, Try.ntmps3
    go_wp2_with fail
    refine (awake_any _).mono ?_
    rintro e w1 ⟨rfl, hb1⟩
    go_wp2_with fail
    refine (C1 _).out.mono ?_
    rintro e w2 ⟨v, rfl, hown, hb2⟩
    simp only at hown
    obtain ⟨va, vc, rfl⟩ := own_slice hown
    have ht := Toks.of_own hown
    have hbw : Below w.heap.size w w2 := hb1.trans (hb2.mono hb1.size)
    clear hown hb1 hb2
    go_wp2_with fail
    refine (C2 _).out.mono ?_
    rintro e w3 ⟨v, rfl, hown, hb3⟩
    simp only at hown
    obtain ⟨ra, rc, rfl⟩ := own_slice hown
    have hr := Toks.of_own hown
    have ht3 := ht.below hb3
    have hbw3 : Below w.heap.size w w3 := hbw.trans (hb3.mono hbw.size)
    clear hown hb3 ht hbw
    go_wp2_with fail
    refine (own_any va vc l w3 ht3 (by omega)).mono ?_
    rintro e w4 ⟨v, rfl, hown, hb4⟩
    obtain ⟨oa, oc, rfl⟩ := own_slice hown
    have ho := Toks.of_own hown
    have hr4 := hr.below hb4
    have hbw4 : Below w.heap.size w w4 := hbw3.trans (hb4.mono hbw3.size)
    clear hown hb4 ht3 hr hbw3
    go_wp2_with fail
    refine (same_any oa ra oc rc l w4 ho hr4 (by omega)).mono ?_
    rintro e w5 ⟨rfl, hb5⟩
    have hbw5 : Below w.heap.size w w5 := hbw4.trans (hb5.mono hbw4.size)
    clear ho hr4 hb5 hbw4
    go_wp2_with fail
    refine (C3 _).out.mono ?_
    rintro e w' ⟨rfl, rfl⟩
    go_wp2_with fail
    refine (C4 _).out.mono ?_
    rintro e w6 ⟨rfl, hb6⟩
    go_wp2_with fail
    go_ret
    exact ⟨rfl, hbw5.trans (hb6.mono hbw5.size)⟩
  · go_enter Try.func3, Try.ntmps3
    go_wp2_with fail
    refine (awake_any _).mono ?_
    rintro e w1 ⟨rfl, hb1⟩
    go_wp2_with fail
    go_ret
    exact ⟨rfl, hb1⟩

set_option maxRecDepth 100000 in
theorem lifted (os : Os) (started : os.Started) (H : Type) (enc : TypeId × Value → H) :
    ReturnsInHanded {} Try.checked os 3 .any (Rows.lexTellsSpec.pre6 enc Try.prog Try.f3 Rows.lexTellsRow.domain false) (Rows.lexTellsSpec.post enc Try.prog Try.f3 false true false false) := by
  refine returnsInHanded_of_change (C := Try.checked) own started (by kernel_rfl) Try.func3
    (ChangeSpec.witness6 (enc := enc) (C := Try.checked) false ⟨#[], #[.string ByteArray.empty], []⟩ 8 (by kernel_rfl) (by kernel_rfl) (by kernel_rfl) (by kernel_rfl)) ?_
  intro W base args ds gs before hval0 hW _ _
  have hval : ∀ (j : Nat) t v, Try.f3.params[j]? = some t → args[j]? = some v → Value.okWide Try.prog W .any base t v := hval0
  have hW' := hW
  obtain ⟨p, q, hA0, hV, rfl, _, _⟩ := hW
  have hA : DataW.TrodAll enc Try.prog W 0 (fun _ => true) true Try.f3.params.toList args.toList ds p := hA0
  rw [Try.params3] at hA hval
  obtain ⟨v0, vs0, d0, ds0, p0, q0, hargs, rfl, rfl, h0, r0⟩ := trodAll_cons hA
  obtain ⟨rfl, rfl, rfl⟩ := trodAll_nil r0
  obtain rfl : args = #[v0] := by cases args; simp_all
  obtain ⟨rfl, rfl⟩ := trodVars_none hV
  obtain ⟨a0, rfl, rfl, rfl, w0⟩ := open_string Try.underlying9 (hval 0 9 v0 rfl rfl) h0
  clear hA0 hval0
  simp only [List.append_nil] at hW'
  refine (walk a0 w0 W).mono fun e W' ⟨he, hg⟩ => ?_
  subst he
  exact ⟨_, rfl, _, _, _, [], [], [], hW', trodAll_cons_mk (shut_bool Try.underlying4 _) trodAll_mk0, trodAll_cons_mk (shut_string Try.underlying9 w0) trodAll_mk0, rfl, hg.frame _, fun h => by cases h⟩

theorem proved : Rows.LexTellsSaid :=
  OpenClaim.holds_of_wide 3 Try.f3 rfl rfl rfl rfl rfl rfl rfl ⟨rfl, rfl, rfl, rfl, rfl⟩ rfl rfl rfl rfl rfl (by kernel_rfl) Try.func3 (by kernel_rfl)
    (of_decide_eq_true (by kernel_rfl)) (by unfold Func.isWrapper; first | (rw [if_pos (by decide +kernel)]; kernel_rfl) | (rw [if_neg (by decide +kernel)]; exact ⟨rfl, rfl⟩))
    (fun os started H enc _ => lifted os started H enc)
end Go.Proofs.Ytfainhgonaghfaa.lexTells
