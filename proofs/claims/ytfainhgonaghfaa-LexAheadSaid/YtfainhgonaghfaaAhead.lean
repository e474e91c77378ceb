/-
  LexAhead: for all texts s and more the law answers true, and its arguments read as they did. Conditions: none.
-/
import Derived.Test.YtfainhgonaghfaaRows
import Derived.Test.YtfainhgonaghfaaLexF
import Derived.Test.YtfainhgonaghfaaLexP
import Derived.ProofKit
import Derived.OpenShut
import Derived.ShutString
import Derived.SizedLaws
namespace Go.Proofs.Ytfainhgonaghfaa.lexAhead
open Go.ChangeShapes Go.WideShapes Go.ChangeAt Go.RowKit
open Go.ChangeMaps (open_string shut_string)

theorem own : ownKnob Try.prog.godebug = none := by kernel_rfl

theorem lex_ok {s : ByteArray} {l : List Tok} (w : World) (hs : s.size ≤ 140737488351232) (h : lexL s.data.toList = (l, 0, 0)) :
    Calls Try.prog 9 #[.string s] w fun e w' => ∃ v, e = .returned (.tuple #[v, .int .i64 0, .int .i64 0]) ∧ Below w.heap.size w w' := by
  refine (lex_any s w hs).mono fun e w' h' => ?_
  rw [h] at h'
  obtain ⟨v, rfl, _, hb⟩ := h'
  exact ⟨v, rfl, hb⟩
theorem lex_no {s : ByteArray} {k : Nat} (w : World) (hs : s.size ≤ 140737488351232) (h : lexL s.data.toList = ([], k, 2)) :
    Calls Try.prog 9 #[.string s] w fun e w' => ∃ v, e = .returned (.tuple #[v, .int .i64 k, .int .i64 2]) ∧ Below w.heap.size w w' := by
  refine (lex_any s w hs).mono fun e w' h' => ?_
  rw [h] at h'
  obtain ⟨v, rfl, _, hb⟩ := h'
  exact ⟨v, rfl, hb⟩

set_option maxHeartbeats 1000000 in
theorem walk (s m : ByteArray) (hs : s.size ≤ 140737488351232) (hm : m.size ≤ 140737488351232) (w : World) :
    Calls Try.prog 6 #[.string s, .string m] w fun e w' => e = .returned (.bool true) ∧ Below w.heap.size w w' := by
  by_cases hz : s.size + m.size ≤ 4096
  · have hlen : s.data.toList.length < 5000 := by rw [bytes_len]; omega
    rcases lexL_codes s.data.toList hlen with ⟨l, hl⟩ | ⟨k, hl, hk⟩
    · have C := fun W => Lib.hid (lex_ok (s := s) W hs hl)
      clear hl
      go_enter Try.func6, Try.ntmps6
      go_wp2_with fail
      refine (awake_any _).mono ?_
      rintro e w1 ⟨rfl, hb1⟩
      go_wp2_with fail
      refine (C _).out.mono ?_
      rintro e w2 ⟨v, rfl, hb2⟩
      go_wp2_with fail
      go_ret
      exact ⟨rfl, hb1.trans (hb2.mono hb1.size)⟩
    · obtain ⟨_, ⟨l', ha⟩, hb⟩ := lexS_ahead _ _ _ _ _ (Nat.le_refl _) hl
      have hk' : k < s.size := by rw [bytes_len] at hk; exact hk
      have hcat : lexL (s ++ ⟨#[32]⟩ ++ m).data.toList = ([], k, 2) := by
        have : (s ++ ⟨#[32]⟩ ++ m).data.toList = s.data.toList ++ 32 :: m.data.toList := by simp
        rw [this]; exact hb _
      have hcut : lexL (s.extract 0 k).data.toList = (l', 0, 0) := by rw [bytes_pre]; exact ha
      have C1 := fun W => Lib.hid (lex_no (s := s) W hs hl)
      have C2 := fun W => Lib.hid (lex_ok (s := s.extract 0 k) W (by simp; omega) hcut)
      have C3 := fun W => Lib.hid (lex_no (s := s ++ ⟨#[32]⟩ ++ m) W (by have : (⟨#[32]⟩ : ByteArray).size = 1 := rfl; simp; omega) hcat)
      clear hl ha hb hcat hcut hk
      go_enter Try.func6, Try.ntmps6
      go_wp2_with fail
      refine (awake_any _).mono ?_
      rintro e w1 ⟨rfl, hb1⟩
      go_wp2_with fail
      refine (C1 _).out.mono ?_
      rintro e w2 ⟨v, rfl, hb2⟩
      go_wp2_with fail
      refine (C2 _).out.mono ?_
      rintro e w3 ⟨v2, rfl, hb3⟩
      go_wp2_with fail
      refine (C3 _).out.mono ?_
      rintro e w4 ⟨v3, rfl, hb4⟩
      go_wp2_with fail
      go_ret
      have z1 := hb1.size
      have z2 := hb2.size
      have z3 := hb3.size
      exact ⟨rfl, ((hb1.trans (hb2.mono z1)).trans (hb3.mono (by omega))).trans (hb4.mono (by omega))⟩
  · go_enter Try.func6, Try.ntmps6
    go_wp2_with fail
    refine (awake_any _).mono ?_
    rintro e w1 ⟨rfl, hb1⟩
    go_wp2_with fail
    go_ret
    exact ⟨rfl, hb1⟩

set_option maxRecDepth 100000 in
theorem lifted (os : Os) (started : os.Started) (H : Type) (enc : TypeId × Value → H) :
    ReturnsInHanded {} Try.checked os 6 .any (Rows.lexAheadSpec.pre6 enc Try.prog Try.f6 Rows.lexAheadRow.domain false) (Rows.lexAheadSpec.post enc Try.prog Try.f6 false true false false) := by
  refine returnsInHanded_of_change_sized (C := Try.checked) own started (by kernel_rfl) Try.func6
    (ChangeSpec.witness6 (enc := enc) (C := Try.checked) false ⟨#[], #[.string ByteArray.empty, .string ByteArray.empty], []⟩ 8 (by kernel_rfl) (by kernel_rfl) (by kernel_rfl) (by kernel_rfl)) ?_
  intro W base args ds gs before hval0 hW _ hsz0 _
  have hsz : (DataW.weightsEach Try.prog (Try.f6.params.toList ++ Rows.lexAheadSpec.plain.varTypes Try.prog) (ds ++ gs)).all (· ≤ reachBytes) = true := hsz0
  have hval : ∀ (j : Nat) t v, Try.f6.params[j]? = some t → args[j]? = some v → Value.okWide Try.prog W .any base t v := hval0
  have hW' := hW
  obtain ⟨p, q, hA0, hV, rfl, _, _⟩ := hW
  have hA : DataW.TrodAll enc Try.prog W 0 (fun _ => true) true Try.f6.params.toList args.toList ds p := hA0
  rw [Try.params6] at hA hval hsz
  obtain ⟨v0, vs0, d0, ds0, p0, q0, hargs, rfl, rfl, h0, r0⟩ := trodAll_cons hA
  obtain ⟨v1, vs1, d1, ds1, p1, q1, rfl, rfl, rfl, h1, r1⟩ := trodAll_cons r0
  obtain ⟨rfl, rfl, rfl⟩ := trodAll_nil r1
  obtain rfl : args = #[v0, v1] := by cases args; simp_all
  obtain ⟨rfl, rfl⟩ := trodVars_none hV
  obtain ⟨a0, rfl, rfl, rfl, w0⟩ := open_string Try.underlying9 (hval 0 9 v0 rfl rfl) h0
  obtain ⟨a1, rfl, rfl, rfl, w1⟩ := open_string Try.underlying9 (hval 1 9 v1 rfl rfl) h1
  have s0 : a0.size ≤ 140737488351232 := by have := sized_string hsz (j := 0) (t := 9) rfl rfl; rw [bytes_len] at this; exact this
  have s1 : a1.size ≤ 140737488351232 := by have := sized_string hsz (j := 1) (t := 9) rfl rfl; rw [bytes_len] at this; exact this
  clear hA0 hval0 hsz0
  simp only [List.append_nil] at hW'
  refine (walk a0 a1 s0 s1 W).mono fun e W' ⟨he, hg⟩ => ?_
  subst he
  exact ⟨_, rfl, _, _, _, [], [], [], hW', trodAll_cons_mk (shut_bool Try.underlying4 _) trodAll_mk0, trodAll_cons_mk (shut_string Try.underlying9 w0) (trodAll_cons_mk (shut_string Try.underlying9 w1) trodAll_mk0), rfl, hg.frame _, fun h => by cases h⟩

theorem proved : Rows.LexAheadSaid :=
  OpenClaim.holds_of_wide 6 Try.f6 rfl rfl rfl rfl rfl rfl rfl ⟨rfl, rfl, rfl, rfl, rfl⟩ rfl rfl rfl rfl rfl (by kernel_rfl) Try.func6 (by kernel_rfl)
    (of_decide_eq_true (by kernel_rfl)) (by unfold Func.isWrapper; first | (rw [if_pos (by decide +kernel)]; kernel_rfl) | (rw [if_neg (by decide +kernel)]; exact ⟨rfl, rfl⟩))
    (fun os started H enc _ => lifted os started H enc)
end Go.Proofs.Ytfainhgonaghfaa.lexAhead
