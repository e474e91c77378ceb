/-
  Contract of layer 5's awake: it answers true.
-/
import Derived.Test.YtplplkchibefjaaMkL
namespace Go.Proofs.Ytplplkchibefjaa.M5
open Go.RowKit Go.Shelf Go.Proofs.Ytplplkchibefjaa.B

theorem eql_mk (a b : Mk) (w : World) : (binOp .eql 77 (.agg #[.bool a.inn, .int .i64 a.age, .int .i64 a.due]) (.agg #[.bool b.inn, .int .i64 b.age, .int .i64 b.due])).run Try.prog w = .ok (.bool (sameM a b)) w := by
  have u0 := Try.underlying3
  have a0 := Try.isAgg3
  have z0 := Try.sizeOf3
  have u2 := Try.underlying4
  have a2 := Try.isAgg4
  have z2 := Try.sizeOf4
  have hS : Try.prog.underlying 77 = some (.struct (Try.prog.fieldsOf 77)) := by kernel_rfl
  have hp : Try.prog.stoodInHeld 77 = false := by kernel_rfl
  rw [run_eql_struct, show (10000 : Nat) = 9999 + 1 from rfl, run_equalIn_agg w 9999 77 _ _ hS hp]
  simp only [Program.fieldsOf, Try.underlying77]
  go_simp
  unfold sameM
  by_cases h0 : a.inn = b.inn <;> by_cases h1 : a.age = b.age <;> by_cases h2 : a.due = b.due <;> simp [h0, h1, h2]
theorem aw_begin (w : World) : AW w (((w.alloc (.cells (es0.flatMap evC).toArray 46)).alloc (.cells (ts0.flatMap tiC).toArray 49)).alloc (.cells #[.slice (some ⟨w.heap.size, 0, none⟩) 2 2, .slice (some ⟨w.heap.size + 1, 0, none⟩) 3 3] 32)) := by
  refine ⟨below3 _ _ _ _, ?_, ?_, ?_⟩
  · exact heap_old (by rw [World.size_alloc, World.size_alloc]; omega) (heap_old (by rw [World.size_alloc]; omega) (heap_new _ _))
  · have h := heap_new (w.alloc (.cells (es0.flatMap evC).toArray 46)) (.cells (ts0.flatMap tiC).toArray 49)
    rw [World.size_alloc] at h
    exact heap_old (by rw [World.size_alloc, World.size_alloc]; omega) h
  · have h := heap_new ((w.alloc (.cells (es0.flatMap evC).toArray 46)).alloc (.cells (ts0.flatMap tiC).toArray 49)) (.cells #[.slice (some ⟨w.heap.size, 0, none⟩) 2 2, .slice (some ⟨w.heap.size + 1, 0, none⟩) 3 3] 32)
    rw [World.size_alloc, World.size_alloc] at h
    exact h
/-- A marking of two events at the head of a block. -/
structure MG (W : World) (g : Nat) (l : List Mk) : Prop where
  r : MR W (some ⟨g, 0, none⟩) l
  z : g < W.heap.size
  c : ∀ j u, (l.flatMap mkC)[j]? = some u → W.cell? ⟨g, j, none⟩ = some u
theorem MG.call {W W' : World} {g : Nat} {l : List Mk} (h : MG W g l) (hb : Below W.heap.size W W') : MG W' g l :=
  ⟨h.r.call hb, Nat.lt_of_lt_of_le h.z hb.size, fun j u hj => (hb.cell (p := ⟨g, j, none⟩) h.z).trans (h.c j u hj)⟩
set_option maxRecDepth 100000 in
set_option maxHeartbeats 8000000 in
theorem awake_any (w : World) : Calls Try.prog 26 #[] w fun e w' => e = .returned (.bool true) ∧ Below w.heap.size w w' := by
  obtain ⟨W0, hW0⟩ : ∃ W0, W0 = (((w.alloc (.cells (es0.flatMap evC).toArray 46)).alloc (.cells (ts0.flatMap tiC).toArray 49)).alloc (.cells #[.slice (some ⟨w.heap.size, 0, none⟩) 2 2, .slice (some ⟨w.heap.size + 1, 0, none⟩) 3 3] 32)) := ⟨_, rfl⟩
  have K0 := Lib.hid (hW0 ▸ aw_begin w : AW w W0)
  simp only [es0, ts0, List.flatMap_cons, List.flatMap_nil, evC, tiC, List.cons_append, List.nil_append, List.append_nil] at hW0
  have HW0 := Lib.hid hW0
  clear hW0
  go_enter Try.func26, Try.ntmps26
  go_wp2_with fail
  rw [← HW0.out]
  refine (aw_start K0.out).mono ?_
  rintro e w1 ⟨mg, mc, rfl, M, hb, hm, hz⟩
  have K1 := Lib.hid (K0.out.call hb)
  have A1 := Lib.hid (⟨M, hz, hm⟩ : MG w1 mg m0)
  obtain ⟨c0, c1⟩ := K1.out.cells
  have ll := K1.out.lt
  clear hb K0 M hm hz HW0
  go_wp2_with fail
  clear c0 c1 ll
  refine (aw_enabled K1.out A1.out.r 1 v2).mono ?_
  rintro e w2 ⟨rfl, hb⟩
  have K2 := Lib.hid (K1.out.call hb)
  have A2 := Lib.hid (A1.out.call hb)
  obtain ⟨c0, c1⟩ := K2.out.cells
  have ll := K2.out.lt
  clear hb K1 A1
  go_wp2_with fail
  clear c0 c1 ll
  refine (aw_do_off K2.out A2.out.r 1 v3 (by decide)).mono ?_
  rintro e w3 ⟨rfl, hb⟩
  have K3 := Lib.hid (K2.out.call hb)
  have A3 := Lib.hid (A2.out.call hb)
  obtain ⟨c0, c1⟩ := K3.out.cells
  have ll := K3.out.lt
  clear hb K2 A2
  go_wp2_with fail
  clear c0 c1 ll
  refine (aw_tick A3.out.r v4 v4').mono ?_
  rintro e w4 ⟨ng, nc, rfl, M, hb, hm, hz⟩
  have K4 := Lib.hid (K3.out.call hb)
  have A4 := Lib.hid (A3.out.call hb)
  have B4 := Lib.hid (⟨M, hz, hm⟩ : MG w4 ng n0)
  obtain ⟨c0, c1⟩ := K4.out.cells
  have ll := K4.out.lt
  clear hb K3 A3 M hm hz
  go_wp2_with fail
  clear c0 c1 ll
  refine (aw_enabled K4.out B4.out.r 1 v5).mono ?_
  rintro e w5 ⟨rfl, hb⟩
  have K5 := Lib.hid (K4.out.call hb)
  have A5 := Lib.hid (A4.out.call hb)
  have B5 := Lib.hid (B4.out.call hb)
  obtain ⟨c0, c1⟩ := K5.out.cells
  have ll := K5.out.lt
  clear hb K4 A4 B4
  go_wp2_with fail
  clear c0 c1 ll
  refine (aw_do K5.out B5.out.r 1 v6 v6').mono ?_
  rintro e w6 ⟨kg, kc, rfl, M, hb, hm, hz⟩
  have K6 := Lib.hid (K5.out.call hb)
  have A6 := Lib.hid (A5.out.call hb)
  have B6 := Lib.hid (B5.out.call hb)
  have C6 := Lib.hid (⟨M, hz, hm⟩ : MG w6 kg k0)
  obtain ⟨c0, c1⟩ := K6.out.cells
  have ll := K6.out.lt
  clear hb K5 A5 B5 M hm hz
  go_wp2_with fail
  clear c0 c1 ll
  refine (aw_tick C6.out.r v7 v7').mono ?_
  rintro e w7 ⟨og, oc, rfl, M, hb, hm, hz⟩
  have K7 := Lib.hid (K6.out.call hb)
  have A7 := Lib.hid (A6.out.call hb)
  have B7 := Lib.hid (B6.out.call hb)
  have C7 := Lib.hid (C6.out.call hb)
  have D7 := Lib.hid (⟨M, hz, hm⟩ : MG w7 og o0)
  obtain ⟨c0, c1⟩ := K7.out.cells
  have ll := K7.out.lt
  clear hb K6 A6 B6 C6 M hm hz
  go_wp2_with fail
  clear c0 c1 ll
  refine (aw_tick_off D7.out.r v8 (by decide)).mono ?_
  rintro e w8 ⟨rfl, hb⟩
  have K8 := Lib.hid (K7.out.call hb)
  have A8 := Lib.hid (A7.out.call hb)
  have B8 := Lib.hid (B7.out.call hb)
  have C8 := Lib.hid (C7.out.call hb)
  have D8 := Lib.hid (D7.out.call hb)
  obtain ⟨c0, c1⟩ := K8.out.cells
  have ll := K8.out.lt
  clear hb K7 A7 B7 C7 D7
  go_wp2_with fail
  clear c0 c1 ll
  refine (aw_all K8.out D8.out.r v9).mono ?_
  rintro e w9 ⟨ag, ac, rfl, hb, hac, haz⟩
  have K9 := Lib.hid (K8.out.call hb)
  have A9 := Lib.hid (A8.out.call hb)
  have B9 := Lib.hid (B8.out.call hb)
  have C9 := Lib.hid (C8.out.call hb)
  have D9 := Lib.hid (D8.out.call hb)
  obtain ⟨c0, c1⟩ := K9.out.cells
  have ll := K9.out.lt
  have xmg0 : w9.cell? ⟨mg, 0, none⟩ = some (.bool true) := A9.out.c 0 _ rfl
  have xmg1 : w9.cell? ⟨mg, 1, none⟩ = some (.int .i64 0) := A9.out.c 1 _ rfl
  have xmg2 : w9.cell? ⟨mg, 2, none⟩ = some (.int .i64 (-1)) := A9.out.c 2 _ rfl
  have xmg4 : w9.cell? ⟨mg, 4, none⟩ = some (.int .i64 (-1)) := A9.out.c 4 _ rfl
  have xng1 : w9.cell? ⟨ng, 1, none⟩ = some (.int .i64 1) := B9.out.c 1 _ rfl
  have xkg2 : w9.cell? ⟨kg, 2, none⟩ = some (.int .i64 1) := C9.out.c 2 _ rfl
  have xkg4 : w9.cell? ⟨kg, 4, none⟩ = some (.int .i64 0) := C9.out.c 4 _ rfl
  have xog2 : w9.cell? ⟨og, 2, none⟩ = some (.int .i64 0) := D9.out.c 2 _ rfl
  have heq := fun W => (show (binOp .eql 77 (.agg #[.bool true, .int .i64 0, .int .i64 (-1)]) (.agg #[.bool true, .int .i64 0, .int .i64 (-1)])).run Try.prog W = .ok (.bool true) W from eql_mk ⟨true, 0, -1⟩ ⟨true, 0, -1⟩ W)
  clear hb K8 A8 B8 C8 D8
  go_wp2_with fail
  clear c0 c1 ll heq hac xmg0 xmg1 xmg2 xmg4 xng1 xkg2 xkg4 xog2
  refine (aw_slack D9.out.r v10).mono ?_
  rintro e w10 ⟨rfl, hb⟩
  have K10 := Lib.hid (K9.out.call hb)
  have A10 := Lib.hid (A9.out.call hb)
  have B10 := Lib.hid (B9.out.call hb)
  have C10 := Lib.hid (C9.out.call hb)
  have D10 := Lib.hid (D9.out.call hb)
  obtain ⟨c0, c1⟩ := K10.out.cells
  have ll := K10.out.lt
  clear hb K9 A9 B9 C9 D9
  go_wp2_with fail
  clear c0 c1 ll
  refine (aw_slack0).mono ?_
  rintro e w11 ⟨rfl, hb⟩
  have K11 := Lib.hid (K10.out.call hb)
  have A11 := Lib.hid (A10.out.call hb)
  have B11 := Lib.hid (B10.out.call hb)
  have C11 := Lib.hid (C10.out.call hb)
  have D11 := Lib.hid (D10.out.call hb)
  obtain ⟨c0, c1⟩ := K11.out.cells
  have ll := K11.out.lt
  clear hb K10 A10 B10 C10 D10
  go_wp2_with fail
  clear c0 c1 ll
  refine (aw_acc B11.out.r v12).mono ?_
  rintro e w12 ⟨rfl, hb⟩
  have K12 := Lib.hid (K11.out.call hb)
  have A12 := Lib.hid (A11.out.call hb)
  have B12 := Lib.hid (B11.out.call hb)
  have C12 := Lib.hid (C11.out.call hb)
  have D12 := Lib.hid (D11.out.call hb)
  obtain ⟨c0, c1⟩ := K12.out.cells
  have ll := K12.out.lt
  clear hb K11 A11 B11 C11 D11
  go_wp2_with fail
  clear c0 c1 ll
  refine (aw_acc D12.out.r v13).mono ?_
  rintro e w13 ⟨rfl, hb⟩
  have K13 := Lib.hid (K12.out.call hb)
  have A13 := Lib.hid (A12.out.call hb)
  have B13 := Lib.hid (B12.out.call hb)
  have C13 := Lib.hid (C12.out.call hb)
  have D13 := Lib.hid (D12.out.call hb)
  obtain ⟨c0, c1⟩ := K13.out.cells
  have ll := K13.out.lt
  clear hb K12 A12 B12 C12 D12
  go_wp2_with fail
  clear c0 c1 ll
  refine (aw_fits A13.out.r v14).mono ?_
  rintro e w14 ⟨rfl, hb⟩
  have K14 := Lib.hid (K13.out.call hb)
  have A14 := Lib.hid (A13.out.call hb)
  have B14 := Lib.hid (B13.out.call hb)
  have C14 := Lib.hid (C13.out.call hb)
  have D14 := Lib.hid (D13.out.call hb)
  obtain ⟨c0, c1⟩ := K14.out.cells
  have ll := K14.out.lt
  clear hb K13 A13 B13 C13 D13
  go_wp2_with fail
  clear c0 c1 ll
  refine (aw_fits0).mono ?_
  rintro e w15 ⟨rfl, hb⟩
  have K15 := Lib.hid (K14.out.call hb)
  have A15 := Lib.hid (A14.out.call hb)
  have B15 := Lib.hid (B14.out.call hb)
  have C15 := Lib.hid (C14.out.call hb)
  have D15 := Lib.hid (D14.out.call hb)
  obtain ⟨c0, c1⟩ := K15.out.cells
  have ll := K15.out.lt
  clear hb K14 A14 B14 C14 D14
  go_wp2_with fail
  clear c0 c1 ll
  refine (aw_start K15.out).mono ?_
  rintro e w16 ⟨sg, sc, rfl, M, hb, hm, hz⟩
  have K16 := Lib.hid (K15.out.call hb)
  have A16 := Lib.hid (A15.out.call hb)
  have B16 := Lib.hid (B15.out.call hb)
  have C16 := Lib.hid (C15.out.call hb)
  have D16 := Lib.hid (D15.out.call hb)
  have S16 := Lib.hid (⟨M, hz, hm⟩ : MG w16 sg m0)
  obtain ⟨c0, c1⟩ := K16.out.cells
  have ll := K16.out.lt
  clear hb K15 A15 B15 C15 D15 M hm hz
  go_wp2_with fail
  clear c0 c1 ll
  refine (aw_same A16.out.r S16.out.r v16).mono ?_
  rintro e w17 ⟨rfl, hb⟩
  have K17 := Lib.hid (K16.out.call hb)
  have A17 := Lib.hid (A16.out.call hb)
  have B17 := Lib.hid (B16.out.call hb)
  have C17 := Lib.hid (C16.out.call hb)
  have D17 := Lib.hid (D16.out.call hb)
  have S17 := Lib.hid (S16.out.call hb)
  obtain ⟨c0, c1⟩ := K17.out.cells
  have ll := K17.out.lt
  clear hb K16 A16 B16 C16 D16 S16
  go_wp2_with fail
  clear c0 c1 ll
  refine (aw_same A17.out.r B17.out.r v17).mono ?_
  rintro e w18 ⟨rfl, hb⟩
  have K18 := Lib.hid (K17.out.call hb)
  have A18 := Lib.hid (A17.out.call hb)
  have B18 := Lib.hid (B17.out.call hb)
  have C18 := Lib.hid (C17.out.call hb)
  have D18 := Lib.hid (D17.out.call hb)
  have S18 := Lib.hid (S17.out.call hb)
  obtain ⟨c0, c1⟩ := K18.out.cells
  have ll := K18.out.lt
  clear hb K17 A17 B17 C17 D17 S17
  go_wp2_with fail
  go_ret
  exact ⟨rfl, K18.out.b⟩
end Go.Proofs.Ytplplkchibefjaa.M5
