/-
  The law's own 'awake': the document's examples come out as it says.
-/
import Derived.Test.YtfainhgonaghfaaLexE
import Derived.Laws.StructEq
namespace Go.Proofs.Ytfainhgonaghfaa
open Go.RowKit

/-- Two tokens held against each other. -/
theorem eql_tok (T : TypeId) (hT : T = 35 ∨ T = 44) (a b c a' b' c' : Int) (x x' : ByteArray) (w : World) :
    (binOp .eql T (.agg #[.int .i64 a, .string x, .int .i64 b, .int .i64 c]) (.agg #[.int .i64 a', .string x', .int .i64 b', .int .i64 c'])).run Try.prog w = .ok (.bool (a == a' && x.toList == x'.toList && b == b' && c == c')) w := by
  have u3 := Try.underlying3
  have a3 := Try.isAgg3
  have z3 := Try.sizeOf3
  have u9 := Try.underlying9
  have a9 := Try.isAgg9
  have z9 := Try.sizeOf9
  rcases hT with rfl | rfl
  · have hS : Try.prog.underlying 35 = some (.struct (Try.prog.fieldsOf 35)) := by kernel_rfl
    have hp : Try.prog.stoodInHeld 35 = false := by kernel_rfl
    rw [run_eql_struct, show (10000 : Nat) = 9999 + 1 from rfl, run_equalIn_agg w 9999 35 _ _ hS hp]
    simp only [Program.fieldsOf, Try.underlying35]
    go_simp
    by_cases h1 : a = a' <;> by_cases h2 : x.toList = x'.toList <;> by_cases h3 : b = b' <;> by_cases h4 : c = c' <;> simp [h1, h2, h3, h4]
  · have hS : Try.prog.underlying 44 = some (.struct (Try.prog.fieldsOf 44)) := by kernel_rfl
    have hp : Try.prog.stoodInHeld 44 = false := by kernel_rfl
    rw [run_eql_struct, show (10000 : Nat) = 9999 + 1 from rfl, run_equalIn_agg w 9999 44 _ _ hS hp]
    simp only [Program.fieldsOf, Try.underlying44]
    go_simp
    by_cases h1 : a = a' <;> by_cases h2 : x.toList = x'.toList <;> by_cases h3 : b = b' <;> by_cases h4 : c = c' <;> simp [h1, h2, h3, h4]

def awL : List Tok := [⟨1, [97, 98], 0, 0⟩, ⟨2, [49, 50], 12, 3⟩, ⟨3, [59], 0, 5⟩]
def awM : List Tok := [⟨1, [97], 0, 9⟩]
theorem aw1 : lexL [97, 98, 32, 49, 50, 59] = (awL, 0, 0) := by rfl
theorem aw2 : lexL [97, 32, 55, 120] = ([], 2, 2) := by rfl
theorem aw3 : segS awL 0 0 = ([(0, 2)], 3) := by rfl
theorem aw4 : segS awM 0 0 = ([], 0) := by rfl
theorem aw5 : joinS true awL = [97, 98, 32, 49, 50, 59, 10] := by rfl
theorem aw6 : nameL [97, 95, 49] = true := by rfl
theorem aw7 : nameL [49, 97] = false := by rfl

theorem lex_aw1 (w : World) : Calls Try.prog 9 #[.string ⟨#[97, 98, 32, 49, 50, 59]⟩] w fun e w' =>
    ∃ g c, e = .returned (.tuple #[.slice (some ⟨g, 0, none⟩) 3 c, .int .i64 0, .int .i64 0]) ∧ (w'.ownsRow w.heap.size 35 4 (.slice (some ⟨g, 0, none⟩) 3 c) 3 (rowC awL) ∧ Below w.heap.size w w') := by
  refine (lex_any _ w (by decide)).mono fun e w' h => ?_
  have h' : LexOf (awL, 0, 0) w e w' := by rw [← aw1]; exact h
  obtain ⟨v, rfl, hown, hb⟩ := h'
  rcases hown.2 with ⟨_, h0⟩ | ⟨g, c, _, rfl, _⟩
  · exact absurd h0 (by decide)
  · exact ⟨g, c, rfl, hown, hb⟩
theorem lex_aw2 (w : World) : Calls Try.prog 9 #[.string ⟨#[97, 32, 55, 120]⟩] w fun e w' =>
    ∃ a c, e = .returned (.tuple #[.slice a 0 c, .int .i64 2, .int .i64 2]) ∧ Below w.heap.size w w' := by
  refine (lex_any _ w (by decide)).mono fun e w' h => ?_
  have h' : LexOf ([], 2, 2) w e w' := by rw [← aw2]; exact h
  obtain ⟨v, rfl, hown, hb⟩ := h'
  obtain ⟨a, c, rfl⟩ := own_slice hown
  exact ⟨a, c, rfl, hb⟩
theorem st_aw1 {B g c : Nat} (w : World) (h : w.ownsRow B 35 4 (.slice (some ⟨g, 0, none⟩) 3 c) 3 (rowC awL)) : Calls Try.prog 16 #[.slice (some ⟨g, 0, none⟩) 3 c] w fun e w' =>
    ∃ a b d, (e = .returned (.tuple #[.slice (some ⟨a, 0, none⟩) 1 b, .int .i64 0, .int .i64 0]) ∧ w'.cell? ⟨a, 0, none⟩ = some (.slice (some d) 2 2)) ∧ (Below w.heap.size w w' ∧ a < w'.heap.size) := by
  refine (statements_any (some ⟨g, 0, none⟩) c awL w (Toks.of_own h) (by decide)).mono fun e w' h => ?_
  obtain ⟨hb, h | h⟩ := h
  · obtain ⟨t, ht, _⟩ := h
    rw [aw3] at ht; cases ht
  · obtain ⟨_, v, vs, oa, oc, rfl, hv, hs, _⟩ := h
    rw [aw3] at hs
    obtain ⟨v0, hv0, d, rfl, _⟩ := hs.2 0 (0, 2) rfl
    have hl : vs.length = 1 := hs.1
    rw [hl] at hv
    rcases hv.2 with ⟨_, h0⟩ | ⟨a, b, _, rfl, _⟩
    · exact absurd h0 (by decide)
    · have := hv.cells (g := a) rfl 0 _ hv0
      rw [Addr.add_lit] at this
      exact ⟨a, b, d, ⟨rfl, this⟩, hb, World.block_lt_of_cell? _ _ this⟩
theorem st_aw2 {b : Nat} (w : World) (h0 : w.cell? ⟨b, 0, none⟩ = some (.int .i64 1)) (h1 : w.cell? ⟨b, 1, none⟩ = some (.string ⟨#[97]⟩)) (h2 : w.cell? ⟨b, 2, none⟩ = some (.int .i64 0)) (h3 : w.cell? ⟨b, 3, none⟩ = some (.int .i64 9)) :
    Calls Try.prog 16 #[.slice (some ⟨b, 0, none⟩) 1 1] w fun e w' => e = .returned (.tuple #[.slice none 0 0, .int .i64 9, .int .i64 2]) ∧ Below w.heap.size w w' := by
  have ht : Toks w (some ⟨b, 0, none⟩) 1 awM := by
    refine ⟨rfl, fun _ => ⟨b, 0, rfl, World.block_lt_of_cell? _ _ h0, fun j u hj => ?_⟩⟩
    match j, hj with
    | 0, hj => cases hj; exact h0
    | 1, hj => cases hj; exact h1
    | 2, hj => cases hj; exact h2
    | 3, hj => cases hj; exact h3
    | n + 4, hj => cases hj
  refine (statements_any (some ⟨b, 0, none⟩) 1 awM w ht (by decide)).mono fun e w' h => ?_
  obtain ⟨hb, h | h⟩ := h
  · obtain ⟨t, ht, rfl⟩ := h
    rw [aw4] at ht; cases ht
    exact ⟨rfl, hb⟩
  · obtain ⟨hl, _⟩ := h
    rw [aw4] at hl; exact absurd hl (by decide)
theorem join_aw {B g c : Nat} (w : World) (h : w.ownsRow B 35 4 (.slice (some ⟨g, 0, none⟩) 3 c) 3 (rowC awL)) : Calls Try.prog 15 #[.slice (some ⟨g, 0, none⟩) 3 c] w fun e w' =>
    e = .returned (.string ⟨#[97, 98, 32, 49, 50, 59, 10]⟩) ∧ Below w.heap.size w w' :=
  join_any (some ⟨g, 0, none⟩) c awL w (Toks.of_own h) (by decide) (by decide)
theorem name_aw1 (w : World) : Calls Try.prog 13 #[.string ⟨#[97, 95, 49]⟩] w fun e w' => e = .returned (.bool true) ∧ w = w' := name_any ⟨#[97, 95, 49]⟩ w (by decide)
theorem name_aw2 (w : World) : Calls Try.prog 13 #[.string ⟨#[49, 97]⟩] w fun e w' => e = .returned (.bool false) ∧ w = w' := name_any ⟨#[49, 97]⟩ w (by decide)

set_option maxHeartbeats 1000000 in
set_option maxRecDepth 100000 in
theorem awake_any (w : World) : Calls Try.prog 8 #[] w fun e w' => e = .returned (.bool true) ∧ Below w.heap.size w w' := by
  have q1 := fun a b c a' b' c' x x' w => eql_tok 35 (.inl rfl) a b c a' b' c' x x' w
  have hm : Try.prog.eqGuardType Try.prog.depth 35 = false := by kernel_rfl
  go_enter Try.func8, Try.ntmps8
  go_wp2_with fail
  refine (lex_aw1 _).mono ?_
  rintro e w1 ⟨g, c, rfl, hown1, hb1⟩
  go_wp2_with fail
  refine (lex_aw2 _).mono ?_
  rintro e w2 ⟨a2, c2, rfl, hb2⟩
  have hown2 := own_below hown1 hb2
  clear hown1
  go_wp2_with fail
  refine (st_aw1 _ hown2).mono ?_
  rintro e w3 ⟨pa, pb, pd, ⟨rfl, hpc⟩, hb3, hpa⟩
  have hown3 := own_below hown2 hb3
  clear hown2
  go_wp2_with fail
  refine (st_aw2 _ (by simp) (by simp) (by simp) (by simp)).mono ?_
  rintro e w4 ⟨rfl, hb4⟩
  have hown4 := own_below (hown3.alloc _) hb4
  have hpc4 : w4.cell? ⟨pa, 0, none⟩ = some (.slice (some pd) 2 2) := by rw [hb4.cell (p := ⟨pa, 0, none⟩) (by simp; omega), World.cell?_alloc_lt _ _ _ (by exact hpa)]; exact hpc
  have hpa4 : pa < w4.heap.size := World.block_lt_of_cell? _ _ hpc4
  have hb : Below w.heap.size w w4 := by
    have z1 := hb1.size
    have z2 := hb2.size
    have z3 := hb3.size
    exact (((hb1.trans (hb2.mono z1)).trans (hb3.mono (by omega))).alloc (by omega) _).trans (hb4.mono (by simp; omega))
  have hc := fun (j : Nat) (u : Value) hj => hown4.cells (g := g) rfl j u hj
  simp only [Addr.add_lit] at hc
  have k0 := hc 0 _ rfl
  have k1 := hc 1 _ rfl
  have k2 := hc 2 _ rfl
  have k3 := hc 3 _ rfl
  have k4 := hc 4 _ rfl
  have k5 := hc 5 _ rfl
  have k6 := hc 6 _ rfl
  have k7 := hc 7 _ rfl
  have k8 := hc 8 _ rfl
  have k9 := hc 9 _ rfl
  have k10 := hc 10 _ rfl
  have k11 := hc 11 _ rfl
  simp only [Nat.zero_add] at k0 k1 k2 k3 k4 k5 k6 k7 k8 k9 k10 k11
  clear hc hb1 hb2 hb3 hb4 hpc hpa hown3
  go_wp2_with fail
  clear k0 k1 k2 k3 k4 k5 k6 k7 k8 k9 k10 k11 q1 hm
  refine (name_aw1 _).mono ?_
  rintro e w' ⟨rfl, rfl⟩
  go_wp2_with fail
  refine (name_aw2 _).mono ?_
  rintro e w' ⟨rfl, rfl⟩
  go_wp2_with fail
  refine (join_aw _ hown4).mono ?_
  rintro e w5 ⟨rfl, hb5⟩
  have hpc5 : w5.cell? ⟨pa, 0, none⟩ = some (.slice (some pd) 2 2) := by rw [hb5.cell (p := ⟨pa, 0, none⟩) hpa4]; exact hpc4
  have hbb : Below w.heap.size w w5 := hb.trans (hb5.mono hb.size)
  clear hpc4 hpa4 hb hb5 hown4
  go_wp2_with fail
  go_ret
  exact ⟨rfl, hbb⟩
end Go.Proofs.Ytfainhgonaghfaa
