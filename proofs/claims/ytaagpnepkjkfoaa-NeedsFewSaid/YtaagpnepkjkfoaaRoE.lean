/-
  The laws' awake.
-/
import Derived.Test.YtaagpnepkjkfoaaRoL
namespace Go.Proofs.Ytaagpnepkjkfoaa.R6
open Go.RowKit Go.Shelf Go.Proofs.Ytaagpnepkjkfoaa.B
def N1 : NetL := [[1], [2], [1]]
def N2 : NetL := [[], [0], [0]]
def N3 : NetL := [[1], [2], []]
theorem aw_rings : (ringsL N1).map (fun l => l.map fun j : Nat => (j : Int)) = [[0], [1, 2]] := by kernel_rfl
theorem aw_order1 : ordE N1 = 7 := by kernel_rfl
theorem aw_order2 : ordI N2 = [1, 2, 0] ∧ ordE N2 = 0 := ⟨by kernel_rfl, by kernel_rfl⟩
theorem aw_long : longI N3 = 2 ∧ ordE N3 = 0 := ⟨by kernel_rfl, by kernel_rfl⟩
theorem aw_turn : turnL N1 = [[], [0, 2], [1]] := by kernel_rfl
theorem aw_reach : reachI N1 0 = [1, 2] := by kernel_rfl
theorem aw_loops : loopsB N1 1 = true ∧ loopsB N1 0 = false := ⟨by kernel_rfl, by kernel_rfl⟩
/-- A net lies there. -/
def Nt (W : World) (A : Option Addr) (n : NetL) : Prop := ∃ rs, netOf rs = n ∧ NetIn W A rs
theorem Nt.below {W W' : World} {A : Option Addr} {n : NetL} (h : Nt W A n) (hb : Below W.heap.size W W') : Nt W' A n := by
  obtain ⟨rs, h1, h2⟩ := h
  exact ⟨rs, h1, h2.below (Nat.le_refl _) hb⟩
theorem row_blk {W : World} {b : Nat} {xs : List Value} {T : TypeId} (h : W.heap[b]? = some (.cells xs.toArray T (0, 0))) : Row W (some ⟨b, 0, none⟩) xs := by
  intro _
  refine ⟨b, 0, rfl, (Array.getElem?_eq_some_iff.1 h).1, fun j v hj => ?_⟩
  exact cell_blk h (by simpa using hj)
theorem nt_rows {n : NetL} {rs : List RW} (h : netOf rs = n) {m : Nat} (hb : ∀ l ∈ n, l.length ≤ m) : ∀ r ∈ rs, r.l.length ≤ m := fun r hr => hb r.l (h ▸ List.mem_map.2 ⟨r, hr, rfl⟩)
theorem nt_len {n : NetL} {rs : List RW} (h : netOf rs = n) : rs.length = n.length := by rw [← h, net_len]
theorem nt3 (w : World) (l0 l1 l2 : List Int) (T T' : TypeId) : Nt ((((w.alloc (.cells (l0.map (Value.int .i64)).toArray T)).alloc (.cells (l1.map (Value.int .i64)).toArray T)).alloc (.cells (l2.map (Value.int .i64)).toArray T)).alloc (.cells #[.slice (some ⟨w.heap.size, 0, none⟩) l0.length l0.length, .slice (some ⟨w.heap.size + 1, 0, none⟩) l1.length l1.length, .slice (some ⟨w.heap.size + 1 + 1, 0, none⟩) l2.length l2.length] T')) (some ⟨w.heap.size + 1 + 1 + 1, 0, none⟩) [l0, l1, l2] := by
  have h0 := allocs_at [Obj.cells (l0.map (Value.int .i64)).toArray T, .cells (l1.map (Value.int .i64)).toArray T, .cells (l2.map (Value.int .i64)).toArray T, .cells #[.slice (some ⟨w.heap.size, 0, none⟩) l0.length l0.length, .slice (some ⟨w.heap.size + 1, 0, none⟩) l1.length l1.length, .slice (some ⟨w.heap.size + 1 + 1, 0, none⟩) l2.length l2.length] T'] w
  refine ⟨[⟨some ⟨w.heap.size, 0, none⟩, l0, l0.length⟩, ⟨some ⟨w.heap.size + 1, 0, none⟩, l1, l1.length⟩, ⟨some ⟨w.heap.size + 1 + 1, 0, none⟩, l2, l2.length⟩], rfl, row_blk (h0 3 (by simp)), fun r hr => ?_⟩
  simp only [List.mem_cons, List.not_mem_nil, or_false] at hr
  rcases hr with rfl | rfl | rfl
  · exact row_blk (h0 0 (by simp))
  · exact row_blk (h0 1 (by simp))
  · exact row_blk (h0 2 (by simp))
theorem nt2 (w : World) (l0 l1 : List Int) (T T' : TypeId) : Nt (((w.alloc (.cells (l0.map (Value.int .i64)).toArray T)).alloc (.cells (l1.map (Value.int .i64)).toArray T)).alloc (.cells #[.slice (some ⟨w.heap.size, 0, none⟩) l0.length l0.length, .slice (some ⟨w.heap.size + 1, 0, none⟩) l1.length l1.length] T')) (some ⟨w.heap.size + 1 + 1, 0, none⟩) [l0, l1] := by
  have h0 := allocs_at [Obj.cells (l0.map (Value.int .i64)).toArray T, .cells (l1.map (Value.int .i64)).toArray T, .cells #[.slice (some ⟨w.heap.size, 0, none⟩) l0.length l0.length, .slice (some ⟨w.heap.size + 1, 0, none⟩) l1.length l1.length] T'] w
  refine ⟨[⟨some ⟨w.heap.size, 0, none⟩, l0, l0.length⟩, ⟨some ⟨w.heap.size + 1, 0, none⟩, l1, l1.length⟩], rfl, row_blk (h0 2 (by simp)), fun r hr => ?_⟩
  simp only [List.mem_cons, List.not_mem_nil, or_false] at hr
  rcases hr with rfl | rfl
  · exact row_blk (h0 0 (by simp))
  · exact row_blk (h0 1 (by simp))
theorem nt3' (w : World) (l0 l1 l2 : List Int) (T T' : TypeId) : Nt ((((w.alloc (.cells (l0.map (Value.int .i64)).toArray T)).alloc (.cells (l1.map (Value.int .i64)).toArray T)).alloc (.cells (l2.map (Value.int .i64)).toArray T)).alloc (.cells #[.slice (some ⟨w.heap.size, 0, none⟩) l0.length l0.length, .slice (some ⟨w.heap.size + 1, 0, none⟩) l1.length l1.length, .slice (some ⟨w.heap.size + 1 + 1, 0, none⟩) l2.length l2.length] T')) (some ⟨w.heap.size + 1 + 1 + 1, 0, none⟩) [l0, l1, l2] ∧
    Below w.heap.size w ((((w.alloc (.cells (l0.map (Value.int .i64)).toArray T)).alloc (.cells (l1.map (Value.int .i64)).toArray T)).alloc (.cells (l2.map (Value.int .i64)).toArray T)).alloc (.cells #[.slice (some ⟨w.heap.size, 0, none⟩) l0.length l0.length, .slice (some ⟨w.heap.size + 1, 0, none⟩) l1.length l1.length, .slice (some ⟨w.heap.size + 1 + 1, 0, none⟩) l2.length l2.length] T')) :=
  ⟨nt3 w l0 l1 l2 T T', allocs_below [Obj.cells (l0.map (Value.int .i64)).toArray T, .cells (l1.map (Value.int .i64)).toArray T, .cells (l2.map (Value.int .i64)).toArray T, .cells #[.slice (some ⟨w.heap.size, 0, none⟩) l0.length l0.length, .slice (some ⟨w.heap.size + 1, 0, none⟩) l1.length l1.length, .slice (some ⟨w.heap.size + 1 + 1, 0, none⟩) l2.length l2.length] T'] w (Nat.le_refl _)⟩
theorem nt2' (w : World) (l0 l1 : List Int) (T T' : TypeId) : Nt (((w.alloc (.cells (l0.map (Value.int .i64)).toArray T)).alloc (.cells (l1.map (Value.int .i64)).toArray T)).alloc (.cells #[.slice (some ⟨w.heap.size, 0, none⟩) l0.length l0.length, .slice (some ⟨w.heap.size + 1, 0, none⟩) l1.length l1.length] T')) (some ⟨w.heap.size + 1 + 1, 0, none⟩) [l0, l1] ∧
    Below w.heap.size w (((w.alloc (.cells (l0.map (Value.int .i64)).toArray T)).alloc (.cells (l1.map (Value.int .i64)).toArray T)).alloc (.cells #[.slice (some ⟨w.heap.size, 0, none⟩) l0.length l0.length, .slice (some ⟨w.heap.size + 1, 0, none⟩) l1.length l1.length] T')) :=
  ⟨nt2 w l0 l1 T T', allocs_below [Obj.cells (l0.map (Value.int .i64)).toArray T, .cells (l1.map (Value.int .i64)).toArray T, .cells #[.slice (some ⟨w.heap.size, 0, none⟩) l0.length l0.length, .slice (some ⟨w.heap.size + 1, 0, none⟩) l1.length l1.length] T'] w (Nat.le_refl _)⟩
theorem rw1' (w : World) (l : List Int) (T : TypeId) : Row (w.alloc (.cells (l.map (Value.int .i64)).toArray T)) (some ⟨w.heap.size, 0, none⟩) (l.map (Value.int .i64)) ∧ Below w.heap.size w (w.alloc (.cells (l.map (Value.int .i64)).toArray T)) :=
  ⟨row_blk (heap_new _ _), (Below.refl _ w).alloc (Nat.le_refl _) _⟩
theorem row_call {W W' : World} {A : Option Addr} {xs : List Value} (h : Row W A xs) (hb : Below W.heap.size W W') : Row W' A xs := h.below (Nat.le_refl _) hb
section
variable {W : World} {A B : Option Addr} {c d : Nat}
theorem nt_rings (h : Nt W A N1) : Calls Try.prog 15 #[.slice A 3 c] W fun e w' => ∃ a k, e = .returned (.slice a 2 k) ∧ Nt w' a [[0], [1, 2]] ∧ Below W.heap.size W w' := by
  obtain ⟨rs, h1, h2⟩ := h
  have hl := nt_len h1
  have := rings_any W A c rs h2 (by rw [hl]; decide) (nt_rows h1 (by decide))
  rw [hl, h1, aw_rings] at this
  refine this.mono ?_
  rintro e w' ⟨v, rfl, ⟨vs, hv⟩, hb⟩
  obtain ⟨a, k, ss, rfl, hn, hi⟩ := hv.net
  rw [nt_len hn]
  exact ⟨a, k, rfl, ⟨ss, hn, hi⟩, hb⟩
theorem nt_order1 (h : Nt W A N1) : Calls Try.prog 9 #[.slice A 3 c] W fun e w' => ∃ v, e = .returned (.tuple #[v, .int .i64 7]) ∧ Below W.heap.size W w' := by
  obtain ⟨rs, h1, h2⟩ := h
  have hl := nt_len h1
  have := order_any W A c rs h2 (by rw [hl]; decide) (nt_rows h1 (by decide))
  rw [hl, h1] at this
  refine this.mono ?_
  rintro e w' ⟨hb, v, rfl, _, _⟩
  rw [aw_order1]
  exact ⟨v, rfl, hb⟩
theorem nt_order2 (h : Nt W A N2) : Calls Try.prog 9 #[.slice A 3 c] W fun e w' => ∃ a k, e = .returned (.tuple #[.slice a 3 k, .int .i64 0]) ∧ Row w' a (([1, 2, 0] : List Int).map (Value.int .i64)) ∧ Below W.heap.size W w' := by
  obtain ⟨rs, h1, h2⟩ := h
  have hl := nt_len h1
  have := order_any W A c rs h2 (by rw [hl]; decide) (nt_rows h1 (by decide))
  rw [hl, h1] at this
  refine this.mono ?_
  rintro e w' ⟨hb, v, rfl, ho, _⟩
  rw [aw_order2.1] at ho
  rw [aw_order2.2]
  obtain ⟨a, k, rfl⟩ := own_slice ho
  exact ⟨a, k, rfl, Row.of_own ho, hb⟩
theorem nt_long (h : Nt W A N3) : Calls Try.prog 11 #[.slice A 3 c] W fun e w' => e = .returned (.tuple #[.int .i64 2, .int .i64 0]) ∧ Below W.heap.size W w' := by
  obtain ⟨rs, h1, h2⟩ := h
  have hl := nt_len h1
  have := longest_any W A c rs h2 (by rw [hl]; decide) (nt_rows h1 (by decide))
  rw [hl, h1, aw_long.1, aw_long.2] at this
  exact this
theorem nt_turn (h : Nt W A N1) : Calls Try.prog 20 #[.slice A 3 c] W fun e w' => ∃ a k, e = .returned (.slice a 3 k) ∧ Nt w' a [[], [0, 2], [1]] ∧ Below W.heap.size W w' := by
  obtain ⟨rs, h1, h2⟩ := h
  have hl := nt_len h1
  have := turn_any W A c rs h2 (by rw [hl]; decide) (nt_rows h1 (by decide))
  rw [hl, h1, aw_turn] at this
  refine this.mono ?_
  rintro e w' ⟨rfl, ⟨vs, hv⟩, hb⟩
  obtain ⟨a, k, ss, he, hn, hi⟩ := hv.net
  rw [he, nt_len hn]
  exact ⟨a, k, rfl, ⟨ss, hn, hi⟩, hb⟩
theorem nt_reach (h : Nt W A N1) : Calls Try.prog 18 #[.slice A 3 c, .int .i64 0] W fun e w' => ∃ a k, e = .returned (.slice a 2 k) ∧ Row w' a (([1, 2] : List Int).map (Value.int .i64)) ∧ Below W.heap.size W w' := by
  obtain ⟨rs, h1, h2⟩ := h
  have hl := nt_len h1
  have := reach_any W A c rs 0 h2 (by rw [hl]; decide) (nt_rows h1 (by decide))
  rw [hl, h1, aw_reach] at this
  refine this.mono ?_
  rintro e w' ⟨v, rfl, ho, hb⟩
  obtain ⟨a, k, rfl⟩ := own_slice ho
  exact ⟨a, k, rfl, Row.of_own ho, hb⟩
theorem nt_loops (h : Nt W A N1) (i : Int) {b : Bool} (he : loopsB N1 i = b) : Calls Try.prog 19 #[.slice A 3 c, .int .i64 i] W fun e w' => e = .returned (.bool b) ∧ Below W.heap.size W w' := by
  obtain ⟨rs, h1, h2⟩ := h
  have hl := nt_len h1
  have := loops_any W A c rs i h2 (by rw [hl]; decide) (nt_rows h1 (by decide))
  rw [hl, h1, he] at this
  exact this
theorem nt_all {n : NetL} (h : Nt W A n) (h' : Nt W B n) (hl : n.length ≤ 1000000) (hr : ∀ l ∈ n, l.length ≤ 1000000) : Calls Try.prog 14 #[.slice A n.length c, .slice B n.length d] W fun e w' => e = .returned (.bool true) ∧ Below W.heap.size W w' := by
  obtain ⟨rs, h1, h2⟩ := h
  obtain ⟨ss, g1, g2⟩ := h'
  have := rall_any A B c d rs ss W h2 g2 (by rw [nt_len h1]; exact hl) (nt_rows h1 hr)
  rw [nt_len h1, nt_len g1, h1, g1, decide_eq_true rfl] at this
  exact this
theorem row_same {l : List Int} (h : Row W A (l.map (Value.int .i64))) (h' : Row W B (l.map (Value.int .i64))) (hl : l.length ≤ 1000000) : Calls Try.prog 17 #[.slice A l.length c, .slice B l.length d] W fun e w' => e = .returned (.bool true) ∧ Below W.heap.size W w' := by
  have := rsame_any A B c d l l W h h' hl
  rw [decide_eq_true rfl] at this
  exact this
end
set_option maxRecDepth 100000 in
set_option maxHeartbeats 8000000 in
theorem awake_any (w : World) : Calls Try.prog 7 #[] w fun e w' => e = .returned (.bool true) ∧ Below w.heap.size w w' := by
  go_enter Try.func7, Try.ntmps7
  go_wp2_with fail
  have XA := Lib.hid (nt3' w [1] [2] [1] 3 26)
  refine (nt_rings XA.out.1).mono ?_
  rintro e w1 ⟨a1, k1, rfl, hL, hb⟩
  have NN1 := Lib.hid (XA.out.1.below hb)
  have BB1 := Lib.hid (XA.out.2.trans (hb.mono XA.out.2.size))
  have LL1 := Lib.hid hL
  generalize w.heap.size + 1 + 1 + 1 = g at *
  clear hL hb XA
  go_wp2_with fail
  refine (nt_order1 NN1.out).mono ?_
  rintro e w2 ⟨v2, rfl, hb⟩
  have NN2 := Lib.hid (NN1.out.below hb)
  have BB2 := Lib.hid (BB1.out.trans (hb.mono BB1.out.size))
  have LL2 := Lib.hid (LL1.out.below hb)
  clear NN1 BB1 LL1 hb
  go_wp2_with fail
  have XA := Lib.hid (nt3' w2 [] [0] [0] 3 26)
  have NNx := Lib.hid (NN2.out.below XA.out.2)
  have BBx := Lib.hid (BB2.out.trans (XA.out.2.mono BB2.out.size))
  have LLx := Lib.hid (LL2.out.below XA.out.2)
  refine (nt_order2 XA.out.1).mono ?_
  rintro e w3 ⟨a3, k3, rfl, hO, hb⟩
  have NN3 := Lib.hid (NNx.out.below hb)
  have BB3 := Lib.hid (BBx.out.trans (hb.mono BBx.out.size))
  have LL3 := Lib.hid (LLx.out.below hb)
  have OO3 := Lib.hid hO
  clear NN2 BB2 LL2 XA NNx BBx LLx hb hO
  go_wp2_with fail
  have XA := Lib.hid (nt3' w3 [1] [2] [] 3 26)
  have NNx := Lib.hid (NN3.out.below XA.out.2)
  have BBx := Lib.hid (BB3.out.trans (XA.out.2.mono BB3.out.size))
  have LLx := Lib.hid (LL3.out.below XA.out.2)
  have OOx := Lib.hid (row_call OO3.out XA.out.2)
  refine (nt_long XA.out.1).mono ?_
  rintro e w4 ⟨rfl, hb⟩
  have NN4 := Lib.hid (NNx.out.below hb)
  have BB4 := Lib.hid (BBx.out.trans (hb.mono BBx.out.size))
  have LL4 := Lib.hid (LLx.out.below hb)
  have OO4 := Lib.hid (row_call OOx.out hb)
  clear NN3 BB3 LL3 OO3 XA NNx BBx LLx OOx hb
  go_wp2_with fail
  refine (nt_turn NN4.out).mono ?_
  rintro e w5 ⟨a5, k5, rfl, hT, hb⟩
  have NN5 := Lib.hid (NN4.out.below hb)
  have BB5 := Lib.hid (BB4.out.trans (hb.mono BB4.out.size))
  have LL5 := Lib.hid (LL4.out.below hb)
  have OO5 := Lib.hid (row_call OO4.out hb)
  have TT5 := Lib.hid hT
  clear NN4 BB4 LL4 OO4 hb hT
  go_wp2_with fail
  have XA := Lib.hid (nt2' w5 [0] [1, 2] 3 26)
  have NNx := Lib.hid (NN5.out.below XA.out.2)
  have BBx := Lib.hid (BB5.out.trans (XA.out.2.mono BB5.out.size))
  have LLx := Lib.hid (LL5.out.below XA.out.2)
  have OOx := Lib.hid (row_call OO5.out XA.out.2)
  have TTx := Lib.hid (TT5.out.below XA.out.2)
  refine (nt_all LLx.out XA.out.1 (by decide) (by decide)).mono ?_
  rintro e w6 ⟨rfl, hb⟩
  have NN6 := Lib.hid (NNx.out.below hb)
  have BB6 := Lib.hid (BBx.out.trans (hb.mono BBx.out.size))
  have LL6 := Lib.hid (LLx.out.below hb)
  have OO6 := Lib.hid (row_call OOx.out hb)
  have TT6 := Lib.hid (TTx.out.below hb)
  clear NN5 BB5 LL5 OO5 TT5 XA NNx BBx LLx OOx TTx hb
  go_wp2_with fail
  have XA := Lib.hid (rw1' w6 [1, 2, 0] 3)
  have NNx := Lib.hid (NN6.out.below XA.out.2)
  have BBx := Lib.hid (BB6.out.trans (XA.out.2.mono BB6.out.size))
  have LLx := Lib.hid (LL6.out.below XA.out.2)
  have OOx := Lib.hid (row_call OO6.out XA.out.2)
  have TTx := Lib.hid (TT6.out.below XA.out.2)
  refine (row_same OOx.out XA.out.1 (by decide)).mono ?_
  rintro e w7 ⟨rfl, hb⟩
  have NN7 := Lib.hid (NNx.out.below hb)
  have BB7 := Lib.hid (BBx.out.trans (hb.mono BBx.out.size))
  have LL7 := Lib.hid (LLx.out.below hb)
  have OO7 := Lib.hid (row_call OOx.out hb)
  have TT7 := Lib.hid (TTx.out.below hb)
  clear NN6 BB6 LL6 OO6 TT6 XA NNx BBx LLx OOx TTx hb
  go_wp2_with fail
  refine (nt_reach NN7.out).mono ?_
  rintro e w8 ⟨a8, k8, rfl, hR, hb⟩
  have NN8 := Lib.hid (NN7.out.below hb)
  have BB8 := Lib.hid (BB7.out.trans (hb.mono BB7.out.size))
  have LL8 := Lib.hid (LL7.out.below hb)
  have OO8 := Lib.hid (row_call OO7.out hb)
  have TT8 := Lib.hid (TT7.out.below hb)
  have RR8 := Lib.hid hR
  clear NN7 BB7 LL7 OO7 TT7 hb hR
  go_wp2_with fail
  have XA := Lib.hid (rw1' w8 [1, 2] 3)
  have NNx := Lib.hid (NN8.out.below XA.out.2)
  have BBx := Lib.hid (BB8.out.trans (XA.out.2.mono BB8.out.size))
  have LLx := Lib.hid (LL8.out.below XA.out.2)
  have OOx := Lib.hid (row_call OO8.out XA.out.2)
  have TTx := Lib.hid (TT8.out.below XA.out.2)
  have RRx := Lib.hid (row_call RR8.out XA.out.2)
  refine (row_same RRx.out XA.out.1 (by decide)).mono ?_
  rintro e w9 ⟨rfl, hb⟩
  have NN9 := Lib.hid (NNx.out.below hb)
  have BB9 := Lib.hid (BBx.out.trans (hb.mono BBx.out.size))
  have LL9 := Lib.hid (LLx.out.below hb)
  have OO9 := Lib.hid (row_call OOx.out hb)
  have TT9 := Lib.hid (TTx.out.below hb)
  have RR9 := Lib.hid (row_call RRx.out hb)
  clear NN8 BB8 LL8 OO8 TT8 RR8 XA NNx BBx LLx OOx TTx RRx hb
  go_wp2_with fail
  refine (nt_loops NN9.out 1 aw_loops.1).mono ?_
  rintro e w10 ⟨rfl, hb⟩
  have NN10 := Lib.hid (NN9.out.below hb)
  have BB10 := Lib.hid (BB9.out.trans (hb.mono BB9.out.size))
  have LL10 := Lib.hid (LL9.out.below hb)
  have OO10 := Lib.hid (row_call OO9.out hb)
  have TT10 := Lib.hid (TT9.out.below hb)
  have RR10 := Lib.hid (row_call RR9.out hb)
  clear NN9 BB9 LL9 OO9 TT9 RR9 hb
  go_wp2_with fail
  refine (nt_loops NN10.out 0 aw_loops.2).mono ?_
  rintro e w11 ⟨rfl, hb⟩
  have NN11 := Lib.hid (NN10.out.below hb)
  have BB11 := Lib.hid (BB10.out.trans (hb.mono BB10.out.size))
  have LL11 := Lib.hid (LL10.out.below hb)
  have OO11 := Lib.hid (row_call OO10.out hb)
  have TT11 := Lib.hid (TT10.out.below hb)
  have RR11 := Lib.hid (row_call RR10.out hb)
  clear NN10 BB10 LL10 OO10 TT10 RR10 hb
  go_wp2_with fail
  have XA := Lib.hid (nt3' w11 [] [0, 2] [1] 3 26)
  have NNx := Lib.hid (NN11.out.below XA.out.2)
  have BBx := Lib.hid (BB11.out.trans (XA.out.2.mono BB11.out.size))
  have LLx := Lib.hid (LL11.out.below XA.out.2)
  have OOx := Lib.hid (row_call OO11.out XA.out.2)
  have TTx := Lib.hid (TT11.out.below XA.out.2)
  have RRx := Lib.hid (row_call RR11.out XA.out.2)
  refine (nt_all TTx.out XA.out.1 (by decide) (by decide)).mono ?_
  rintro e w12 ⟨rfl, hb⟩
  have NN12 := Lib.hid (NNx.out.below hb)
  have BB12 := Lib.hid (BBx.out.trans (hb.mono BBx.out.size))
  have LL12 := Lib.hid (LLx.out.below hb)
  have OO12 := Lib.hid (row_call OOx.out hb)
  have TT12 := Lib.hid (TTx.out.below hb)
  have RR12 := Lib.hid (row_call RRx.out hb)
  clear NN11 BB11 LL11 OO11 TT11 RR11 XA NNx BBx LLx OOx TTx RRx hb
  go_wp2_with fail
  go_ret
  exact ⟨rfl, BB12.out⟩
end Go.Proofs.Ytaagpnepkjkfoaa.R6
