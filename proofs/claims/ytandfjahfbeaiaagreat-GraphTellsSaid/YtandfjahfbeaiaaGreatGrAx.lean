/-
  Contract of layer 2's awake: it answers true.
-/
import Derived.Test.YtandfjahfbeaiaaGreatGrAw
import Derived.Test.YtandfjahfbeaiaaGreatGrCn
namespace Go.Proofs.YtandfjahfbeaiaaGreat
open Go.RowKit Go.Shelf

theorem ka_all {w W : World} (h : KA w W) : KA w W ∧ W.cell? ⟨w.heap.size + 5, 0, none⟩ = some (.slice (some ⟨w.heap.size, 0, none⟩) 2 2) ∧ W.cell? ⟨w.heap.size + 5, 1, none⟩ = some (.slice (some ⟨w.heap.size + 1, 0, none⟩) 2 2) ∧ W.cell? ⟨w.heap.size + 5, 2, none⟩ = some (.slice (some ⟨w.heap.size + 2, 0, none⟩) 1 1) ∧ W.cell? ⟨w.heap.size + 5, 3, none⟩ = some (.slice (some ⟨w.heap.size + 4, 0, none⟩) 1 1) := ⟨h, ka_cells h⟩
theorem own_form {w : World} {B e z n : Nat} {v : Value} {xs : List Value} (h : w.ownsRow B e z v (n + 1) xs) : ∃ g c, v = .slice (some ⟨g, 0, none⟩) (n + 1) c ∧ B ≤ g ∧ g < w.heap.size ∧ ∀ (j : Nat) (u : Value), xs[j]? = some u → w.cell? ⟨g, j, none⟩ = some u := by
  rcases h.2 with ⟨_, h0⟩ | ⟨g, cap, cur, rfl, hb, hg, _⟩
  · omega
  · refine ⟨g, cap, rfl, hb, (Array.getElem?_eq_some_iff.1 hg).1, fun j u hu => ?_⟩
    have := h.cells (g := g) rfl j u hu
    rw [Addr.add_lit, Nat.zero_add] at this
    exact this
def PQ (W : World) (b : Nat) (x y : Int) : Prop := W.heap[b]? = some (.cells #[.int .i64 x, .int .i64 y] 47 (0, 0))
theorem PQ.call {W W' : World} {b : Nat} {x y : Int} (h : PQ W b x y) (hb : Below W.heap.size W W') : PQ W' b x y := (hb.block b (Array.getElem?_eq_some_iff.1 h).1).trans h
theorem PQ.alloc {W : World} {b : Nat} {x y : Int} (h : PQ W b x y) (o : Obj) : PQ (W.alloc o) b x y := hA_old h
theorem PQ.cells {W : World} {b : Nat} {x y : Int} (h : PQ W b x y) : W.cell? ⟨b, 0, none⟩ = some (.int .i64 x) ∧ W.cell? ⟨b, 1, none⟩ = some (.int .i64 y) := ⟨cell_blk h rfl, cell_blk h rfl⟩

set_option maxRecDepth 100000 in
set_option maxHeartbeats 8000000 in
theorem awake_any (w : World) : Calls Tryz.prog 4 #[] w fun e w' => e = .returned (.bool true) ∧ Below w.heap.size w w' := by
  have k1 := ka_begin w
  obtain ⟨W1, hW1⟩ : ∃ W1, W1 = wA w := ⟨_, rfl⟩
  rw [← hW1] at k1
  have K1 := Lib.hid k1
  simp only [wA] at hW1
  have HW1 := Lib.hid hW1
  clear hW1 k1
  go_enter Tryz.func4, Tryz.ntmps4
  go_wp2_with fail
  rw [← HW1.out, show w.heap.size + 1 + 1 + 1 + 1 + 1 = w.heap.size + 5 from rfl]
  refine (check_aw w _ K1.out).mono ?_
  rintro e w2 ⟨rfl, hb2⟩
  have K2 := Lib.hid (ka_call hb2 K1.out)
  have y2 := ka_size K2.out
  clear hb2 HW1 K1
  go_wp2_with fail
  refine (check_awB _ _ (hA_new (by simp))).mono ?_
  rintro e w3 ⟨rfl, hb3⟩
  have K3 := Lib.hid (ka_call hb3 (ka_alloc (ka_alloc K2.out _) _))
  have P3 : Hid (PQ w3 w2.heap.size 0 0) := Lib.hid (PQ.call (hA_old (hA_new rfl)) hb3)
  have y3 := ka_size K3.out
  have z3 := hb3.size
  simp only [World.size_alloc] at z3
  clear hb3
  go_wp2_with fail
  refine (check_awC _ _ (hA_new (by simp))).mono ?_
  rintro e w4 ⟨rfl, hb4⟩
  have K4 := Lib.hid (ka_call hb4 (ka_alloc (ka_alloc K3.out _) _))
  have P4 := Lib.hid (((P3.out.alloc _).alloc _).call hb4)
  have Q4 : Hid (PQ w4 w3.heap.size 2 1) := Lib.hid (PQ.call (hA_old (hA_new rfl)) hb4)
  have y4 := ka_size K4.out
  have z4 := hb4.size
  simp only [World.size_alloc] at z4
  clear hb4 P3 K2 K3
  obtain ⟨c0, c1, c2, c3⟩ := ka_cells K4.out
  have l4 : w.heap.size + 5 < w4.heap.size := by omega
  go_wp2_with fail
  refine (mem_aw w _ (ka_alloc K4.out _)).mono ?_
  rintro e w5 ⟨v5, rfl, o5, hb5⟩
  have K5 := Lib.hid (ka_call hb5 (ka_alloc K4.out _))
  have P5 := Lib.hid ((P4.out.alloc _).call hb5)
  have Q5 := Lib.hid ((Q4.out.alloc _).call hb5)
  have z5 := hb5.size
  simp only [World.size_alloc] at z5
  obtain ⟨g5, e5, rfl, hg5, hl5, hc5⟩ := own_form o5
  have M5 := Lib.hid (hc5 0 _ rfl)
  clear hb5 P4 Q4 K4 c0 c1 c2 c3 o5 hc5
  have k5 := K5.out
  go_wp2_with fail
  go_region_held3 (fun W => KA w W ∧ W.cell? ⟨w.heap.size + 5, 0, none⟩ = some (.slice (some ⟨w.heap.size, 0, none⟩) 2 2) ∧ W.cell? ⟨w.heap.size + 5, 1, none⟩ = some (.slice (some ⟨w.heap.size + 1, 0, none⟩) 2 2) ∧ W.cell? ⟨w.heap.size + 5, 2, none⟩ = some (.slice (some ⟨w.heap.size + 2, 0, none⟩) 1 1) ∧ W.cell? ⟨w.heap.size + 5, 3, none⟩ = some (.slice (some ⟨w.heap.size + 4, 0, none⟩) 1 1))
    (((try go_split_ands); (first | exact ka_all (by with_reducible assumption) | exact ka_all (ka_drew (by with_reducible assumption)) | exact ka_all (ka_call (by with_reducible assumption) (by with_reducible assumption)))))
    (first
      | (go_at_call 11; go_split_ands; refine (above_aw w _ (by with_reducible assumption)).mono ?_; rintro e w6 ⟨v6, rfl, o6, hb6⟩; obtain ⟨g6, e6, rfl, hg6, hl6, hc6⟩ := own_form o6)
      | (go_at_call 13; go_split_ands; refine (roles_aw w _ (by with_reducible assumption)).mono ?_; rintro e w7 ⟨v7, rfl, o7, hb7⟩; obtain ⟨g7, e7, rfl, hg7, hl7, hc7⟩ := own_form o7))
  have hb6' : Below w5.heap.size w5 w6 := ⟨hb6.os, hb6.tape, hb6.output, hb6.size, hb6.block⟩
  have K7 := Lib.hid (ka_call hb7 (ka_call hb6' K5.out))
  have P7 := Lib.hid ((P5.out.call hb6').call hb7)
  have Q7 := Lib.hid ((Q5.out.call hb6').call hb7)
  have z6 := hb6'.size
  have z7 := hb7.size
  have M7 : Hid (w7.cell? ⟨g5, 0, none⟩ = some (.int .i64 1)) := Lib.hid ((hb7.cell (p := ⟨g5, 0, none⟩) (by show g5 < w6.heap.size; omega)).trans ((hb6'.cell (p := ⟨g5, 0, none⟩) hl5).trans M5.out))
  have U7 : Hid (w7.cell? ⟨g6, 1, none⟩ = some (.string ⟨#[103]⟩)) := Lib.hid ((hb7.cell (p := ⟨g6, 1, none⟩) hl6).trans (hc6 1 _ rfl))
  have R7 : Hid (w7.cell? ⟨g7, 0, none⟩ = some (.string ⟨#[113]⟩)) := Lib.hid (hc7 0 _ rfl)
  have y7 := ka_size K7.out
  clear hb6 hb7 o6 o7 hc6 hc7 K5 P5 Q5 M5 k5 hb6' hg6 hg7 hg5
  obtain ⟨c0, c1, c2, c3⟩ := ka_cells K7.out
  have l7 : w.heap.size + 5 < w7.heap.size := by omega
  go_wp2_with fail
  refine (gclone_any w7 (gA w.heap.size) (ka_in K7.out) (szA _)).mono ?_
  rintro e w8 ⟨c, rfl, hs, ho, hb8⟩
  have K8 := Lib.hid (ka_call hb8 K7.out)
  have P8 := P7.out.call hb8
  have Q8 := Q7.out.call hb8
  have z8 := hb8.size
  have m8 : w8.cell? ⟨g5, 0, none⟩ = some (.int .i64 1) := (hb8.cell (p := ⟨g5, 0, none⟩) (by show g5 < w7.heap.size; omega)).trans M7.out
  have u8 : w8.cell? ⟨g6, 1, none⟩ = some (.string ⟨#[103]⟩) := (hb8.cell (p := ⟨g6, 1, none⟩) (by show g6 < w7.heap.size; omega)).trans U7.out
  have r8 : w8.cell? ⟨g7, 0, none⟩ = some (.string ⟨#[113]⟩) := (hb8.cell (p := ⟨g7, 0, none⟩) hl7).trans R7.out
  obtain ⟨p0, p1⟩ := P8.cells
  obtain ⟨q0, q1⟩ := Q8.cells
  have HS := Lib.hid hs
  have HO := Lib.hid ho.inG
  clear hb8 P7 Q7 M7 U7 R7 K7 c0 c1 c2 c3 P8 Q8 hs ho
  obtain ⟨c0, c1, c2, c3⟩ := ka_cells K8.out
  have n1 : w.heap.size + 5 < w8.heap.size := by omega
  have n2 : w2.heap.size < w8.heap.size := by omega
  have n3 : w3.heap.size < w8.heap.size := by omega
  have n4 : g5 < w8.heap.size := by omega
  have n5 : g6 < w8.heap.size := by omega
  have n6 : g7 < w8.heap.size := by omega
  have e1 : ∀ w : World, (binOp .eql 47 (.agg #[.int .i64 0, .int .i64 0]) (.agg #[.int .i64 0, .int .i64 0])).run Tryz.prog w = .ok (.bool true) w := fun w => by kernel_rfl
  have e2 : ∀ w : World, (binOp .eql 47 (.agg #[.int .i64 2, .int .i64 1]) (.agg #[.int .i64 2, .int .i64 1])).run Tryz.prog w = .ok (.bool true) w := fun w => by kernel_rfl
  go_wp2_with fail
  refine (find1_aw w _ (ka_alloc K8.out _)).mono ?_
  rintro e w9 ⟨rfl, hb9⟩
  have K9 := Lib.hid (ka_call hb9 (ka_alloc K8.out _))
  have C9 : Hid (w9.heap[w8.heap.size]? = some (.cells #[.slice c.ga c.gs.length c.gc, .slice c.ea c.es.length c.ec, .slice c.ra c.rs.length c.rc, .slice c.ua c.us.length c.uc] 27 (0, 0))) := Lib.hid ((hb9.block _ (by simp)).trans (heap_new _ _))
  have z9 := hb9.size
  simp only [World.size_alloc] at z9
  have hb9' : Below w8.heap.size w8 w9 := ((Below.refl _ _).alloc (Nat.le_refl _) _).trans (hb9.mono (by simp))
  have HO9 := Lib.hid (HO.out.below (Nat.le_refl _) hb9')
  have u9 := (hb9'.cell (p := ⟨g6, 1, none⟩) n5).trans u8
  have r9 := (hb9'.cell (p := ⟨g7, 0, none⟩) n6).trans r8
  have U9 := Lib.hid u9
  have R9 := Lib.hid r9
  clear hb9 hb9' u8 r8 m8 p0 p1 q0 q1 c0 c1 c2 c3 e1 e2 HO u9 r9
  obtain ⟨c0, c1, c2, c3⟩ := ka_cells K9.out
  go_wp2_with fail
  refine (find2_aw w _ K9.out).mono ?_
  rintro e w10 ⟨rfl, hb10⟩
  have K10 := Lib.hid (ka_call hb10 K9.out)
  have z10 := hb10.size
  have hc10 := (hb10.block w8.heap.size (by omega)).trans C9.out
  have HC10 := Lib.hid hc10
  have HO10 := Lib.hid (HO9.out.below (Nat.le_refl _) hb10)
  have u10 := (hb10.cell (p := ⟨g6, 1, none⟩) (by show g6 < w9.heap.size; omega)).trans U9.out
  have r10 := (hb10.cell (p := ⟨g7, 0, none⟩) (by show g7 < w9.heap.size; omega)).trans R9.out
  clear c0 c1 c2 c3 hb10 C9 HO9 U9 R9 K9
  obtain ⟨c0, c1, c2, c3⟩ := ka_cells K10.out
  have d0 := cell_blk (i := 0) hc10 rfl
  have d1 := cell_blk (i := 1) hc10 rfl
  have d2 := cell_blk (i := 2) hc10 rfl
  have d3 := cell_blk (i := 3) hc10 rfl
  clear hc10
  go_wp2_with fail
  refine (same_aw w _ c K10.out HO10.out HS.out).mono ?_
  rintro e w11 ⟨rfl, hb11⟩
  have K11 := Lib.hid (ka_call hb11 K10.out)
  have hc11 := (hb11.block w8.heap.size (by omega)).trans HC10.out
  have HO11 := Lib.hid (HO10.out.below (Nat.le_refl _) hb11)
  clear c0 c1 c2 c3 d0 d1 d2 d3 u10 r10 hb11 HC10 HO10 K10
  have d0 := cell_blk (i := 0) hc11 rfl
  have d1 := cell_blk (i := 1) hc11 rfl
  have d2 := cell_blk (i := 2) hc11 rfl
  have d3 := cell_blk (i := 3) hc11 rfl
  clear hc11
  go_wp2_with fail
  refine (same0_aw w _ c HO11.out HS.out).mono ?_
  rintro e w12 ⟨rfl, hb12⟩
  have K12 := Lib.hid (ka_call hb12 K11.out)
  clear d0 d1 d2 d3 hb12 K11 HO11
  go_wp2_with fail
  go_ret
  exact ⟨rfl, ka_old K12.out⟩
end Go.Proofs.YtandfjahfbeaiaaGreat
