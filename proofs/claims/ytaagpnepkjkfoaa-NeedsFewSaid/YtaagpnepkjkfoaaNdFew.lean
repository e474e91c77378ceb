/-
  NeedsFew answers true, whatever graph and tie it is given: with a tie more nothing matters less, nor is called for less.
-/
import Derived.Test.YtaagpnepkjkfoaaNdO
import Derived.Test.YtaagpnepkjkfoaaNdR
namespace Go.Proofs.Ytaagpnepkjkfoaa.N7.Few
open Go.RowKit Go.Shelf Go.Deep Go.Joins Go.ChangeShapes Go.WideShapes Go.Proofs.Ytaagpnepkjkfoaa.B Go.Proofs.Ytaagpnepkjkfoaa.R6 Go.Proofs.Ytaagpnepkjkfoaa.N7

section
variable {H : Type} {enc : TypeId × Value → H} {w : World} {base : Nat} {spare : Nat → Bool} {held : Bool}
set_option maxRecDepth 100000 in
theorem open_flatn {r : Reach} {b0 : Nat} {v : Value} {d : DataW H} {p : List MemPlace} (hv : Value.okWide Try.prog w r b0 45 v) (h : DataW.Trod enc Try.prog w base spare held 45 v d p) (hw : Wt Try.prog 45 d) :
    ∃ (EA TA : Option Addr) (ec tc : Nat) (es : List Ev) (ts : List Ti), v = .agg #[.slice EA es.length ec, .slice TA ts.length tc] ∧ Row w EA (es.flatMap evC) ∧ Row w TA (ts.flatMap tiC) ∧ es.length * 64 ≤ 140737488351232 ∧ ts.length * 32 ≤ 140737488351232 ∧ (TA = none → ts.length = 0 ∧ tc = 0) := by
  obtain ⟨v0, v1, y0, y1, n, rfl, rfl, _, h0, h1⟩ := open_agg2 Try.underlying45 (by kernel_rfl) (by kernel_rfl) hv h
  obtain ⟨A0, l0, c0, rfl, r0, g0, _, _, z0⟩ := open_list evC 6 goodE Try.underlying42 (by kernel_rfl) (fun _ => rfl) (by omega) rd_ev h0 (hw.field Try.underlying45 (j := 0) rfl rfl)
  obtain ⟨A1, l1, c1, rfl, r1, g1, k1, n1, z1⟩ := open_list tiC 4 goodT Try.underlying43 (by kernel_rfl) (fun _ => rfl) (by omega) rd_ti h1 (hw.field Try.underlying45 (j := 1) rfl rfl)
  rw [bytesEv] at z0
  rw [bytesTi] at z1
  exact ⟨A0, A1, c0, c1, l0, l1, rfl, r0, r1, z0, z1, fun e => by have := n1 e; omega⟩
set_option maxRecDepth 100000 in
theorem open_tie {r : Reach} {b0 : Nat} {v : Value} {d : DataW H} {p : List MemPlace} (hv : Value.okWide Try.prog w r b0 62 v) (h : DataW.Trod enc Try.prog w base spare held 62 v d p) : ∃ u : Ti, v = tiW u := by
  obtain ⟨v0, v1, v2, v3, y0, y1, y2, y3, n, rfl, _, _, h0, h1, h2, h3⟩ := open_agg4 Try.underlying62 (by kernel_rfl) (by kernel_rfl) hv h
  obtain ⟨i0, rfl, _⟩ := rd_i64 Try.underlying3 h0
  obtain ⟨i1, rfl, _⟩ := rd_i64 Try.underlying3 h1
  obtain ⟨i2, rfl, _⟩ := rd_i64 Try.underlying3 h2
  obtain ⟨i3, rfl, _⟩ := rd_i64 Try.underlying3 h3
  exact ⟨⟨i0, i1, i2, i3⟩, rfl⟩
end

theorem own : ownKnob Try.prog.godebug = none := by kernel_rfl
set_option maxRecDepth 100000 in
theorem lifted (os : Os) (started : os.Started) (H : Type) (enc : TypeId × Value → H) :
    ReturnsInHanded {} Try.checked os 6 .any (Rows.needsFewSpec.pre6 enc Try.prog Try.f6 Rows.needsFewRow.domain false) (Rows.needsFewSpec.post enc Try.prog Try.f6 false true false false) := by
  refine returnsInHanded_of_change_sized (C := Try.checked) own started (by kernel_rfl) Try.func6
    (ChangeSpec.witness6 (enc := enc) (C := Try.checked) false ⟨#[], #[.agg #[.slice none 0 0, .slice none 0 0], .agg #[.int .i64 0, .int .i64 0, .int .i64 0, .int .i64 0]], []⟩ 8 (by kernel_rfl) (by kernel_rfl) (by kernel_rfl) (by kernel_rfl)) ?_
  intro W base args ds gs before hval0 hW _ hsz0 _
  have hsz : (DataW.weightsEach Try.prog (Try.f6.params.toList ++ Rows.needsFewSpec.plain.varTypes Try.prog) (ds ++ gs)).all (· ≤ reachBytes) = true := hsz0
  have hval : ∀ (j : Nat) t v, Try.f6.params[j]? = some t → args[j]? = some v → Value.okWide Try.prog W .any base t v := hval0
  have hW' := hW
  obtain ⟨p, q, hA0, hV, rfl, _, _⟩ := hW
  have hA : DataW.TrodAll enc Try.prog W 0 (fun _ => true) true Try.f6.params.toList args.toList ds p := hA0
  rw [Try.params6] at hA hval hsz
  obtain ⟨v0, vs0, d0, ds0, p0, q0, hargs, rfl, rfl, h0, r0⟩ := trodAll_cons hA
  obtain ⟨v1, vs1, d1, ds1, p1, q1, e1, rfl, rfl, h1, r1⟩ := trodAll_cons r0
  obtain ⟨rfl, rfl, rfl⟩ := trodAll_nil r1
  subst e1
  obtain rfl : args = #[v0, v1] := by cases args; simp_all
  obtain ⟨rfl, rfl⟩ := trodVars_none hV
  have hw0 : Wt Try.prog 45 d0 := Wt.of hsz (j := 0) rfl rfl
  obtain ⟨EA, TA, ec, tc, es, ts, rfl, he, ht, hel, htl, hTn⟩ := open_flatn (hval 0 _ v0 rfl rfl) h0 hw0
  obtain ⟨u1, rfl⟩ := open_tie (hval 1 _ v1 rfl rfl) h1
  clear hA0 hval0 hsz0
  simp only [List.append_nil] at hW'
  have hlt0 := fun x hx => hW'.lt x hx
  refine (few_walk W EA TA ec tc es ts u1 ⟨he, ht⟩ hTn).mono fun e W' ⟨he2, hg⟩ => ?_
  subst he2
  have hargs := (trodAll_cons_mk (Below.trod progLaid (by kernel_rfl) (of_decide_eq_true (by kernel_rfl)) h0 hg (fun x hx => hlt0 x (List.mem_append_left _ hx))) (trodAll_cons_mk (Below.trod progLaid (by kernel_rfl) (of_decide_eq_true (by kernel_rfl)) h1 hg (fun x hx => hlt0 x (List.mem_append_right _ (hx)))) (trodAll_mk0 (enc := enc) (P := Try.prog) (w := W'))))
  simp only [List.append_nil] at hargs
  exact ⟨_, rfl, _, _, _, [], p0 ++ (p1), [], hW', trodAll_cons_mk (shut_bool Try.underlying4 _) trodAll_mk0, hargs, rfl, hg.frame _, fun h => by cases h⟩

theorem proved : Rows.NeedsFewSaid :=
  OpenClaim.holds_of_wide 6 Try.f6 rfl rfl rfl rfl rfl rfl rfl ⟨rfl, rfl, rfl, rfl, rfl⟩ rfl rfl rfl rfl rfl (by kernel_rfl) Try.func6 (by kernel_rfl)
    (of_decide_eq_true (by kernel_rfl)) (by unfold Func.isWrapper; first | (rw [if_pos (by decide +kernel)]; kernel_rfl) | (rw [if_neg (by decide +kernel)]; exact ⟨rfl, rfl⟩))
    (fun os started H enc _ => lifted os started H enc)
end Go.Proofs.Ytaagpnepkjkfoaa.N7.Few
