/-
  The laws' awake and large of layer 7.
-/
import Derived.Test.YtaagpnepkjkfoaaNdM
namespace Go.Proofs.Ytaagpnepkjkfoaa.N7
open Go.RowKit Go.Shelf Go.Proofs.Ytaagpnepkjkfoaa.B Go.Proofs.Ytaagpnepkjkfoaa.R6

def noS : ByteArray := ⟨#[]⟩
def es0 : List Ev := [⟨noS, noS, noS, true, false, -1⟩, ⟨noS, noS, noS, true, false, 3⟩, ⟨noS, noS, noS, false, false, -1⟩]
def ts0 : List Ti := [⟨1, 0, 1, 4⟩, ⟨2, 1, 2, 0⟩, ⟨4, 2, 0, 0⟩]
theorem small0 : SmF es0 ts0 := ⟨by decide, by decide⟩
theorem aw_net0 : netL 3 (needS 3 ts0) = [[], [0, 2], []] := by kernel_rfl
theorem aw_blk0 : inL 3 (blkS 3 ts0 1) = [0] := by kernel_rfl
theorem aw_cal0 : inL 3 (clS 3 ts0 1) = [2] := by kernel_rfl
theorem aw_cld0 : inL 3 (pendS es0 ts0) = [1, 2] := by kernel_rfl
theorem aw_mat0 : reachN ([[], [0, 2], []] ++ [[1, 2]]) ((3 : Nat) : Int) = [0, 1, 2] := by kernel_rfl
theorem aw_exc0 : inL 3 (exclS es0 ts0) = [0, 2] := by kernel_rfl
theorem aw_del1 : delS 3 (ts0.filter (F4.intoB 1 1)) = 4 := by kernel_rfl
theorem aw_del0 : delS 3 (ts0.filter (F4.intoB 1 0)) = 0 := by kernel_rfl
abbrev fl0 (A B : Option Addr) : Value := .agg #[.slice A 3 3, .slice B 3 3]
/-- A row of the call's own is a row. -/
theorem inP_row {F : FuncId} {args : Array Value} {W : World} {L L' : List Int} (h : Calls Try.prog F args W (InP W L)) (e : L = L') : Calls Try.prog F args W fun e w' => ∃ a k, e = .returned (.slice a L'.length k) ∧ Row w' a (L'.map (Value.int .i64)) ∧ Below W.heap.size W w' := by
  subst e
  refine h.mono ?_
  rintro e w' ⟨v, rfl, ho, hb⟩
  obtain ⟨a, k, rfl⟩ := own_slice ho
  exact ⟨a, k, rfl, Row.of_own ho, hb⟩
/-- The fixed graph lies there. -/
structure AW (w W : World) : Prop where
  f : FI W (some ⟨w.heap.size, 0, none⟩) (some ⟨w.heap.size + 1, 0, none⟩) es0 ts0
  b : W.heap[w.heap.size + 1 + 1]? = some (.cells #[.slice (some ⟨w.heap.size, 0, none⟩) 3 3, .slice (some ⟨w.heap.size + 1, 0, none⟩) 3 3] 45 (0, 0))
  l : Below w.heap.size w W
theorem AW.call {w W W' : World} (h : AW w W) (hb : Below W.heap.size W W') : AW w W' := ⟨h.f.below hb, (hb.block _ (blk_lt h.b)).trans h.b, h.l.trans (hb.mono h.l.size)⟩
theorem AW.c0 {w W : World} (h : AW w W) : W.cell? ⟨w.heap.size + 1 + 1, 0, none⟩ = some (.slice (some ⟨w.heap.size, 0, none⟩) 3 3) ∧ W.cell? ⟨w.heap.size + 1 + 1, 1, none⟩ = some (.slice (some ⟨w.heap.size + 1, 0, none⟩) 3 3) := ⟨cell_blk h.b rfl, cell_blk h.b rfl⟩
theorem AW.start (w : World) : AW w (((w.alloc (.cells (es0.flatMap evC).toArray 81)).alloc (.cells (ts0.flatMap tiC).toArray 62)).alloc (.cells #[.slice (some ⟨w.heap.size, 0, none⟩) 3 3, .slice (some ⟨w.heap.size + 1, 0, none⟩) 3 3] 45)) := by
  have s1 : (w.alloc (.cells (es0.flatMap evC).toArray 81)).heap.size = w.heap.size + 1 := World.size_alloc _ _
  have s2 : ((w.alloc (.cells (es0.flatMap evC).toArray 81)).alloc (.cells (ts0.flatMap tiC).toArray 62)).heap.size = w.heap.size + 1 + 1 := by rw [World.size_alloc, s1]
  refine ⟨⟨row_blk (heap_old (by rw [s2]; omega) (heap_old (by rw [s1]; omega) (heap_new _ _))), row_blk (heap_old (by rw [s2]; omega) (by rw [← s1]; exact heap_new _ _))⟩, by rw [← s2]; exact heap_new _ _, (((Below.refl _ w).alloc (Nat.le_refl _) _).alloc (by rw [s1]; omega) _).alloc (by rw [s2]; omega) _⟩
def LgP (w : World) (es : List Ev) (ts : List Ti) (e : Ending) (w' : World) : Prop := ∃ b, e = .returned (.bool b) ∧ Below w.heap.size w w' ∧ (b = false → es.length ≤ 20 ∧ ts.length ≤ 150)
set_option maxHeartbeats 1000000 in
theorem large7 (w : World) (EA TA : Option Addr) (ec tc : Nat) (es : List Ev) (ts : List Ti) : Calls Try.prog 23 #[FV EA TA es.length ec ts.length tc] w (LgP w es ts) := by
  have hb : Below w.heap.size w (w.alloc (.cells #[.slice EA es.length ec, .slice TA ts.length tc] 45)) := (Below.refl _ _).alloc (Nat.le_refl _) _
  by_cases h1 : (es.length : Int) > 20
  · go_enter Try.func23, Try.ntmps23
    go_wp2_with fail
    go_ret
    exact ⟨true, rfl, hb, fun h => (by cases h)⟩
  · by_cases h2 : (ts.length : Int) > 150
    · go_enter Try.func23, Try.ntmps23
      go_wp2_with fail
      go_ret
      exact ⟨true, rfl, hb, fun h => (by cases h)⟩
    · have h3 : es.length ≤ 20 ∧ ts.length ≤ 150 := ⟨by omega, by omega⟩
      have H3 := Lib.hid h3
      clear h3
      go_enter Try.func23, Try.ntmps23
      go_wp2_with fail
      go_ret
      exact ⟨false, rfl, hb, fun _ => H3.out⟩
theorem aw_net (w W : World) (h : AW w W) : Calls Try.prog 29 #[fl0 (some ⟨w.heap.size, 0, none⟩) (some ⟨w.heap.size + 1, 0, none⟩)] W (NetP W 3 [[], [0, 2], []]) := by
  have := net_of W _ _ 3 3 es0 ts0 h.f small0
  rw [show netL es0.length (needS es0.length ts0) = [[], [0, 2], []] from aw_net0] at this
  exact this
set_option maxRecDepth 100000 in
set_option maxHeartbeats 8000000 in
theorem awake7 (w : World) : Calls Try.prog 22 #[] w fun e w' => e = .returned (.bool true) ∧ Below w.heap.size w w' := by
  have A0 := Lib.hid (AW.start w)
  go_enter Try.func22, Try.ntmps22
  go_wp2_with fail
  refine (aw_net w _ A0.out).mono ?_
  rintro e w1 ⟨g, vs, rfl, hor, hb⟩
  have A1 := Lib.hid (A0.out.call hb)
  obtain ⟨ra, rc, hv⟩ := own_slice (hor.inn 1 (by decide))
  have hcv : w1.cell? ⟨g, 1, none⟩ = some (.slice ra 2 rc) := (hor.out.cellAt 1 (by decide)).trans (by
    have h1 : (1 : Nat) < vs.length := by rw [hor.len]; decide
    rw [List.getElem?_eq_getElem h1, ← getElem!_pos vs 1 h1, hv]; rfl)
  have hrow : Row w1 ra (([0, 2] : List Int).map (Value.int .i64)) := by
    have := hor.inn 1 (by decide)
    rw [hv] at this
    exact Row.of_own this
  have hgl := (own_block hor.out (g := g) rfl).2
  have RR := Lib.hid hrow
  clear hor hv hb A0 hrow
  go_wp2_with fail
  have hal2 : Below w1.heap.size w1 (w1.alloc (.cells #[.int .i64 0, .int .i64 2] 3)) := (Below.refl _ _).alloc (Nat.le_refl _) _
  have SA2 := Lib.hid (A1.out.call hal2)
  have CS2 := Lib.hid (row_same (c := rc) (d := 2) (l := [0, 2]) (RR.out.below (Nat.le_refl _) hal2) (row_blk (heap_new w1 (.cells #[.int .i64 0, .int .i64 2] 3))) (by decide))
  clear A1 RR hal2
  refine CS2.out.mono ?_
  rintro e w2 ⟨rfl, hb⟩
  have A2 := Lib.hid (SA2.out.call hb)
  obtain ⟨x0, x1⟩ := A2.out.c0
  clear hb SA2 CS2
  go_wp2_with fail
  have CL2 := inP_row (blocks_of w2 _ _ 3 3 es0 ts0 A2.out.f small0 1) (L' := [0]) aw_blk0
  have HL2 := Lib.hid CL2
  clear CL2 x0 x1
  refine HL2.out.mono ?_
  rintro e w3 ⟨ra, rc, rfl, hrow, hb⟩
  have RR := Lib.hid hrow
  have A3 := Lib.hid (A2.out.call hb)
  clear hrow hb HL2 A2
  go_wp2_with fail
  have hal4 : Below w3.heap.size w3 (w3.alloc (.cells #[.int .i64 0] 3)) := (Below.refl _ _).alloc (Nat.le_refl _) _
  have SA4 := Lib.hid (A3.out.call hal4)
  have CS4 := Lib.hid (row_same (c := rc) (d := 1) (l := [0]) (RR.out.below (Nat.le_refl _) hal4) (row_blk (heap_new w3 (.cells #[.int .i64 0] 3))) (by decide))
  clear A3 RR hal4
  refine CS4.out.mono ?_
  rintro e w4 ⟨rfl, hb⟩
  have A4 := Lib.hid (SA4.out.call hb)
  obtain ⟨x0, x1⟩ := A4.out.c0
  clear hb SA4 CS4
  go_wp2_with fail
  have CL4 := inP_row (calls_of w4 _ _ 3 3 es0 ts0 A4.out.f small0 1) (L' := [2]) aw_cal0
  have HL4 := Lib.hid CL4
  clear CL4 x0 x1
  refine HL4.out.mono ?_
  rintro e w5 ⟨ra, rc, rfl, hrow, hb⟩
  have RR := Lib.hid hrow
  have A5 := Lib.hid (A4.out.call hb)
  clear hrow hb HL4 A4
  go_wp2_with fail
  have hal6 : Below w5.heap.size w5 (w5.alloc (.cells #[.int .i64 2] 3)) := (Below.refl _ _).alloc (Nat.le_refl _) _
  have SA6 := Lib.hid (A5.out.call hal6)
  have CS6 := Lib.hid (row_same (c := rc) (d := 1) (l := [2]) (RR.out.below (Nat.le_refl _) hal6) (row_blk (heap_new w5 (.cells #[.int .i64 2] 3))) (by decide))
  clear A5 RR hal6
  refine CS6.out.mono ?_
  rintro e w6 ⟨rfl, hb⟩
  have A6 := Lib.hid (SA6.out.call hb)
  obtain ⟨x0, x1⟩ := A6.out.c0
  clear hb SA6 CS6
  go_wp2_with fail
  have CL6 := inP_row (called_of w6 _ _ 3 3 es0 ts0 A6.out.f small0) (L' := [1, 2]) aw_cld0
  have HL6 := Lib.hid CL6
  clear CL6 x0 x1
  refine HL6.out.mono ?_
  rintro e w7 ⟨ra, rc, rfl, hrow, hb⟩
  have RR := Lib.hid hrow
  have A7 := Lib.hid (A6.out.call hb)
  clear hrow hb HL6 A6
  go_wp2_with fail
  have hal8 : Below w7.heap.size w7 (w7.alloc (.cells #[.int .i64 1, .int .i64 2] 3)) := (Below.refl _ _).alloc (Nat.le_refl _) _
  have SA8 := Lib.hid (A7.out.call hal8)
  have CS8 := Lib.hid (row_same (c := rc) (d := 2) (l := [1, 2]) (RR.out.below (Nat.le_refl _) hal8) (row_blk (heap_new w7 (.cells #[.int .i64 1, .int .i64 2] 3))) (by decide))
  clear A7 RR hal8
  refine CS8.out.mono ?_
  rintro e w8 ⟨rfl, hb⟩
  have A8 := Lib.hid (SA8.out.call hb)
  obtain ⟨x0, x1⟩ := A8.out.c0
  clear hb SA8 CS8
  go_wp2_with fail
  have CL8 := inP_row (matters_of w8 _ _ 3 3 es0 ts0 A8.out.f small0) (L' := [0, 1, 2]) (by show reachN (netL 3 (needS 3 ts0) ++ [inL 3 (pendS es0 ts0)]) ((3 : Nat) : Int) = _; rw [aw_net0, aw_cld0]; exact aw_mat0)
  have HL8 := Lib.hid CL8
  clear CL8 x0 x1
  refine HL8.out.mono ?_
  rintro e w9 ⟨ra, rc, rfl, hrow, hb⟩
  have RR := Lib.hid hrow
  have A9 := Lib.hid (A8.out.call hb)
  clear hrow hb HL8 A8
  go_wp2_with fail
  have hal10 : Below w9.heap.size w9 (w9.alloc (.cells #[.int .i64 0, .int .i64 1, .int .i64 2] 3)) := (Below.refl _ _).alloc (Nat.le_refl _) _
  have SA10 := Lib.hid (A9.out.call hal10)
  have CS10 := Lib.hid (row_same (c := rc) (d := 3) (l := [0, 1, 2]) (RR.out.below (Nat.le_refl _) hal10) (row_blk (heap_new w9 (.cells #[.int .i64 0, .int .i64 1, .int .i64 2] 3))) (by decide))
  clear A9 RR hal10
  refine CS10.out.mono ?_
  rintro e w10 ⟨rfl, hb⟩
  have A10 := Lib.hid (SA10.out.call hb)
  obtain ⟨x0, x1⟩ := A10.out.c0
  clear hb SA10 CS10
  go_wp2_with fail
  have CL10 := inP_row (excluded_of w10 _ _ 3 3 es0 ts0 A10.out.f small0) (L' := [0, 2]) aw_exc0
  have HL10 := Lib.hid CL10
  clear CL10 x0 x1
  refine HL10.out.mono ?_
  rintro e w11 ⟨ra, rc, rfl, hrow, hb⟩
  have RR := Lib.hid hrow
  have A11 := Lib.hid (A10.out.call hb)
  clear hrow hb HL10 A10
  go_wp2_with fail
  have hal12 : Below w11.heap.size w11 (w11.alloc (.cells #[.int .i64 0, .int .i64 2] 3)) := (Below.refl _ _).alloc (Nat.le_refl _) _
  have SA12 := Lib.hid (A11.out.call hal12)
  have CS12 := Lib.hid (row_same (c := rc) (d := 2) (l := [0, 2]) (RR.out.below (Nat.le_refl _) hal12) (row_blk (heap_new w11 (.cells #[.int .i64 0, .int .i64 2] 3))) (by decide))
  clear A11 RR hal12
  refine CS12.out.mono ?_
  rintro e w12 ⟨rfl, hb⟩
  have A12 := Lib.hid (SA12.out.call hb)
  obtain ⟨x0, x1⟩ := A12.out.c0
  clear hb SA12 CS12
  go_wp2_with fail
  have CL12 := delay_of w12 _ _ 3 3 es0 ts0 A12.out.f small0 1
  rw [show delS es0.length (ts0.filter (F4.intoB 1 1)) = 4 from aw_del1] at CL12
  have HL12 := Lib.hid CL12
  clear CL12 x0 x1
  refine HL12.out.mono ?_
  rintro e w13 ⟨rfl, hb⟩
  have A13 := Lib.hid (A12.out.call hb)
  obtain ⟨x0, x1⟩ := A13.out.c0
  clear hb HL12 A12
  go_wp2_with fail
  have CL13 := delay_of w13 _ _ 3 3 es0 ts0 A13.out.f small0 0
  rw [show delS es0.length (ts0.filter (F4.intoB 1 0)) = 0 from aw_del0] at CL13
  have HL13 := Lib.hid CL13
  clear CL13 x0 x1
  refine HL13.out.mono ?_
  rintro e w14 ⟨rfl, hb⟩
  have A14 := Lib.hid (A13.out.call hb)
  obtain ⟨x0, x1⟩ := A14.out.c0
  clear hb HL13 A13
  go_wp2_with fail
  go_ret
  exact ⟨rfl, A14.out.l⟩
end Go.Proofs.Ytaagpnepkjkfoaa.N7
