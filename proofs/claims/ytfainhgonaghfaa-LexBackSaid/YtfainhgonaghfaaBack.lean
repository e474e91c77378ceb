/-
  LexBack: for every text the law answers true, and its argument reads as it did. Conditions: none.
-/
import Derived.Test.YtfainhgonaghfaaRows
import Derived.Test.YtfainhgonaghfaaLexF
import Derived.Test.YtfainhgonaghfaaLexS
import Derived.ProofKit
import Derived.OpenShut
import Derived.ShutString
namespace Go.Proofs.Ytfainhgonaghfaa.lexBack
open Go.ChangeShapes Go.WideShapes Go.ChangeAt Go.RowKit
open Go.ChangeMaps (open_string shut_string)

theorem own : ownKnob Try.prog.godebug = none := by kernel_rfl

/-- What the law compares, token by token. -/
structure Pair (j : ByteArray) (k : Nat) (t t' : Tok) (x x' : ByteArray) : Prop where
  kind : ((t'.kind : Int) != (t.kind : Int)) = false
  text : x'.toList = x.toList
  val : ((t'.val : Int) != (t.val : Int)) = false
  in_ : t'.loc + x'.size ≤ j.size
  cut : (j.extract t'.loc (t'.loc + x'.size)).toList = x'.toList

theorem placed_at {s : List UInt8} : ∀ {l : List Tok} {p k : Nat} {t : Tok}, Placed s p l → l[k]? = some t → t.loc + t.text.length ≤ s.length ∧ (s.drop t.loc).take t.text.length = t.text
  | [], _, _, _, _, h => by simp at h
  | a :: l, _, 0, t, hp, h => by simp at h; subst h; exact ⟨hp.2.1, hp.2.2.1⟩
  | a :: l, _, k + 1, t, hp, h => placed_at (l := l) (k := k) hp.2.2.2.2.2 (by simpa using h)

theorem pair_of {j : ByteArray} {l l' : List Tok} {k : Nat} {t t' : Tok} {x x' : ByteArray} (hb : l'.map bare = l.map bare) (hp : Placed j.data.toList 0 l') (ht : l[k]? = some t) (ht' : l'[k]? = some t') (hx : x = ⟨t.text.toArray⟩) (hx' : x' = ⟨t'.text.toArray⟩) :
    Pair j k t t' x x' := by
  have h1 : (l'.map bare)[k]? = (l.map bare)[k]? := by rw [hb]
  rw [List.getElem?_map, List.getElem?_map, ht, ht'] at h1
  simp only [Option.map_some, Option.some.injEq, bare, Prod.mk.injEq] at h1
  obtain ⟨e1, e2, e3⟩ := h1
  obtain ⟨p1, p2⟩ := placed_at hp ht'
  have hxs : x'.size = t'.text.length := by rw [hx', Lib.size_eq]
  rw [bytes_len] at p1
  refine ⟨by rw [bne_eq_false_iff_eq, e1], by rw [hx, hx', Lib.toList_data, Lib.toList_data, e2], by rw [bne_eq_false_iff_eq, e3], by rw [hxs]; exact p1, ?_⟩
  rw [Lib.toList_data, Lib.extract_data, hxs, show t'.loc + t'.text.length - t'.loc = t'.text.length from by omega, hx', Lib.toList_data]
  exact p2

def Rel (n : Nat) (w w4 : World) (i : Value) (wr : World) : Prop :=
  ∃ k : Nat, k ≤ n ∧ i = .int .i64 k ∧ Below w4.heap.size w4 wr ∧ Below w.heap.size w wr

set_option maxHeartbeats 4000000 in
set_option maxRecDepth 100000 in
theorem walk_ok (s : ByteArray) (hz : s.size ≤ 4096) (l : List Tok) (hl : lexL s.data.toList = (l, 0, 0)) (hn : l.length ≤ 5000) (w : World) :
    Calls Try.prog 4 #[.string s] w fun e w' => e = .returned (.bool true) ∧ Below w.heap.size w w' := by
  have hn' : l.length ≤ 4096 := by have := lexS_few _ _ _ _ _ hl; simp at this; omega
  have hsum := (lexL_placed hl).sum (Nat.zero_le _)
  rw [bytes_len] at hsum
  have hjs := join_size l true
  obtain ⟨l', hl', hbare⟩ := join_back l true 0 [] (lexS_own _ _ _ _ _ hl (by simp)) (by simp; omega)
  simp only [List.nil_append] at hl'
  obtain ⟨j, hj⟩ : ∃ j : ByteArray, j = ⟨(joinS true l).toArray⟩ := ⟨_, rfl⟩
  have hjd : j.data.toList = joinS true l := by rw [hj]
  have hjz : j.size ≤ 12288 := by rw [Lib.size_eq, hjd]; omega
  have hln : l'.length = l.length := by have := congrArg List.length hbare; simpa using this
  have HP : Hid (Placed j.data.toList 0 l') := Lib.hid (by rw [hjd]; exact lexL_placed hl')
  have HB := Lib.hid hbare
  have C : ∀ W, Hid (Calls Try.prog 9 #[.string s] W (LexOf (l, 0, 0) W)) := fun W => Lib.hid (by rw [← hl]; exact lex_any s W (by omega))
  have C2 : ∀ W, Hid (Calls Try.prog 9 #[.string j] W (LexOf (l', 0, 0) W)) := fun W => Lib.hid (by
    have := lex_any j W (by omega)
    rw [hjd, show lexL (joinS true l) = (l', 0, 0) from hl'] at this
    exact this)
  have CJ : ∀ (A : Option Addr) (c : Nat) (W : World), Toks W A l.length l → Hid (Calls Try.prog 15 #[.slice A l.length c] W fun e w' => e = .returned (.string j) ∧ Below W.heap.size W w') := fun A c W ht => Lib.hid (by
    rw [hj]; exact join_any A c l W ht (by omega) (by omega))
  have CK : ∀ (A : Option Addr) (c : Nat) (W : World), Toks W A l.length l' → Hid (Calls Try.prog 15 #[.slice A l.length c] W fun e w' => e = .returned (.string j) ∧ Below W.heap.size W w') := fun A c W ht => Lib.hid (by
    rw [hj, ← join_bare l l' true hbare, ← hln]; exact join_any A c l' W (by rw [hln]; exact ht) (by omega) (by rw [join_bare l l' true hbare]; omega))
  have HN := Lib.hid hln
  clear hl hl' hbare hsum hjs hj hjd hln
  go_enter Try.func4, Try.ntmps4
  go_wp2_with fail
  refine (awake_any _).mono ?_
  rintro e w1 ⟨rfl, hb1⟩
  go_wp2_with fail
  refine (C _).out.mono ?_
  rintro e w2 ⟨v, rfl, hown, hb2⟩
  simp only at hown
  obtain ⟨va, vc, rfl⟩ := own_slice hown
  have ht := Toks.of_own hown
  have hbw : Below w.heap.size w w2 := hb1.trans (hb2.mono hb1.size)
  clear hown hb1 hb2
  go_wp2_with fail
  refine (CJ va vc w2 ht).out.mono ?_
  rintro e w3 ⟨rfl, hb3⟩
  have ht3 := ht.below hb3
  have hbw3 : Below w.heap.size w w3 := hbw.trans (hb3.mono hbw.size)
  clear ht hb3 hbw
  go_wp2_with fail
  refine (C2 _).out.mono ?_
  rintro e w4 ⟨v, rfl, hown, hb4⟩
  simp only at hown
  rw [HN.out] at hown
  obtain ⟨va', vc', rfl⟩ := own_slice hown
  have ht' : Toks w4 va' l.length l' := by have h := HN.out; rw [← h] at hown ⊢; exact Toks.of_own hown
  have ht4 := ht3.below hb4
  have hbw4 : Below w.heap.size w w4 := hbw3.trans (hb4.mono hbw3.size)
  clear hown ht3 hb4 hbw3
  have e1 : ((l.length : Int) != (l.length : Int)) = false := by simp
  go_wp2_with fail
  refine (CK va' vc' w4 ht').out.mono ?_
  rintro e w5 ⟨rfl, hb5⟩
  have ht5' := ht'.below hb5
  have ht5 := ht4.below hb5
  have hbw5 : Below w.heap.size w w5 := hbw4.trans (hb5.mono hbw4.size)
  clear ht' ht4 hb5 hbw4 CJ CK C C2
  go_wp2_with fail
  go_loopw [10, 52] (fun _ i wr => Rel l.length w w5 i wr) (fun _ i _ => l.length - (intOf i).toNat)
  case atStart => exact ⟨0, Nat.zero_le _, rfl, Below.refl _ _, hbw5⟩
  case round =>
    obtain ⟨k, hk, rfl, hb, hbel⟩ := hrel
    by_cases hlt : k < l.length
    · obtain ⟨b, off, t, x, rfl, hbl, htk, hx, c0, c1, c2, c3⟩ := ht5.at_ hlt
      obtain ⟨b', off', t', x', rfl, hbl', htk', hx', d0, d1, d2, d3⟩ := ht5'.at_ hlt
      obtain ⟨p1, p2, p3, p4, p5⟩ := pair_of HB.out HP.out htk htk' hx hx'
      rw [← hb.cell (p := ⟨b, _, none⟩) hbl] at c0 c1 c2 c3
      rw [← hb.cell (p := ⟨b', _, none⟩) hbl'] at d0 d1 d2 d3
      have q2 : (x'.toList == x.toList) = true := by rw [beq_iff_eq]; exact p2
      have q5 : ((j.extract t'.loc (t'.loc + x'.size)).toList == x'.toList) = true := by rw [beq_iff_eq]; exact p5
      clear hx hx' htk htk' p2 p5
      go_wp2_with fail
      have e4 : IntKind.i64.wrap ((t'.loc : Int) + (x'.size : Int)) = (t'.loc : Int) + (x'.size : Int) := IntWalk.i64_in _ (by omega)
      have e5 : ((t'.loc : Int) + (x'.size : Int)).toNat = t'.loc + x'.size := by omega
      have e6 : (0 : Int) ≤ (t'.loc : Int) + (x'.size : Int) := by omega
      go_quiet (fail)
      clear e4 e5 e6 q2 q5 c0 c1 c2 c3 d0 d1 d2 d3 p1 p3
      go_wp2_with fail
      go_roundw
      case rel => exact ⟨k + 1, hlt, by go_num, below_draws hb nq, below_draws hbel nq⟩
      case measure => simp [intOf]; omega
    · go_wp2_with fail
      go_ret
      exact ⟨rfl, hbel⟩
set_option maxHeartbeats 1000000 in
theorem walk (s : ByteArray) (hs : s.size ≤ maxLen) (w : World) :
    Calls Try.prog 4 #[.string s] w fun e w' => e = .returned (.bool true) ∧ Below w.heap.size w w' := by
  unfold maxLen at hs
  by_cases hz : s.size ≤ 4096
  · have hlen : s.data.toList.length < 5000 := by rw [bytes_len]; omega
    rcases lexL_codes s.data.toList hlen with ⟨l, hl⟩ | ⟨k, hl, hk⟩
    · exact walk_ok s hz l hl (lexL_few hlen hl) w
    · have C : ∀ W, Hid (Calls Try.prog 9 #[.string s] W (LexOf ([], k, 2) W)) := fun W => Lib.hid (by rw [← hl]; exact lex_any s W (by omega))
      rw [bytes_len] at hk
      clear hl
      go_enter Try.func4, Try.ntmps4
      go_wp2_with fail
      refine (awake_any _).mono ?_
      rintro e w1 ⟨rfl, hb1⟩
      go_wp2_with fail
      refine (C _).out.mono ?_
      rintro e w2 ⟨v, rfl, hown, hb2⟩
      simp only [List.length_nil] at hown
      obtain ⟨va, vc, rfl⟩ := own_slice hown
      clear hown
      go_wp2_with fail
      go_ret
      exact ⟨ret_bool (by simp), hb1.trans (hb2.mono hb1.size)⟩
  · go_enter Try.func4, Try.ntmps4
    go_wp2_with fail
    refine (awake_any _).mono ?_
    rintro e w1 ⟨rfl, hb1⟩
    go_wp2_with fail
    go_ret
    exact ⟨rfl, hb1⟩

set_option maxRecDepth 100000 in
theorem lifted (os : Os) (started : os.Started) (H : Type) (enc : TypeId × Value → H) :
    ReturnsInHanded {} Try.checked os 4 .any (Rows.lexBackSpec.pre6 enc Try.prog Try.f4 Rows.lexBackRow.domain false) (Rows.lexBackSpec.post enc Try.prog Try.f4 false true false false) := by
  refine returnsInHanded_of_change (C := Try.checked) own started (by kernel_rfl) Try.func4
    (ChangeSpec.witness6 (enc := enc) (C := Try.checked) false ⟨#[], #[.string ByteArray.empty], []⟩ 8 (by kernel_rfl) (by kernel_rfl) (by kernel_rfl) (by kernel_rfl)) ?_
  intro W base args ds gs before hval0 hW _ _
  have hval : ∀ (j : Nat) t v, Try.f4.params[j]? = some t → args[j]? = some v → Value.okWide Try.prog W .any base t v := hval0
  have hW' := hW
  obtain ⟨p, q, hA0, hV, rfl, _, _⟩ := hW
  have hA : DataW.TrodAll enc Try.prog W 0 (fun _ => true) true Try.f4.params.toList args.toList ds p := hA0
  rw [Try.params4] at hA hval
  obtain ⟨v0, vs0, d0, ds0, p0, q0, hargs, rfl, rfl, h0, r0⟩ := trodAll_cons hA
  obtain ⟨rfl, rfl, rfl⟩ := trodAll_nil r0
  obtain rfl : args = #[v0] := by cases args; simp_all
  obtain ⟨rfl, rfl⟩ := trodVars_none hV
  obtain ⟨a0, rfl, rfl, rfl, w0⟩ := open_string Try.underlying9 (hval 0 9 v0 rfl rfl) h0
  clear hA0 hval0
  simp only [List.append_nil] at hW'
  refine (walk a0 w0 W).mono fun e W' ⟨he, hg⟩ => ?_
  subst he
  exact ⟨_, rfl, _, _, _, [], [], [], hW', trodAll_cons_mk (shut_bool Try.underlying4 _) trodAll_mk0, trodAll_cons_mk (shut_string Try.underlying9 w0) trodAll_mk0, rfl, hg.frame _, fun h => by cases h⟩

theorem proved : Rows.LexBackSaid :=
  OpenClaim.holds_of_wide 4 Try.f4 rfl rfl rfl rfl rfl rfl rfl ⟨rfl, rfl, rfl, rfl, rfl⟩ rfl rfl rfl rfl rfl (by kernel_rfl) Try.func4 (by kernel_rfl)
    (of_decide_eq_true (by kernel_rfl)) (by unfold Func.isWrapper; first | (rw [if_pos (by decide +kernel)]; kernel_rfl) | (rw [if_neg (by decide +kernel)]; exact ⟨rfl, rfl⟩))
    (fun os started H enc _ => lifted os started H enc)
end Go.Proofs.Ytfainhgonaghfaa.lexBack
