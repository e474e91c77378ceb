/-
  Contract of flat.Make, up to its loop.
-/
import Derived.Test.YtplplkchibefjaaFlF
import Derived.Sort.CutIn
import Derived.Maps.OwnIn
import Derived.Laws.ResultCell
namespace Go.Proofs.Ytplplkchibefjaa
open Go.RowKit Go.Shelf
attribute [local go_sem] Oper.semAt_some

theorem told_any (g : Gr) (w : World) : Calls Try.prog 49 #[.agg #[.slice g.ga g.gs.length g.gc, .slice g.ea g.es.length g.ec, .slice g.ra g.rs.length g.rc, .slice g.ua g.us.length g.uc]] w fun e w' => e = .returned (.func (.func 82) #[] #[.pointer (some ⟨w.heap.size, 0, none⟩)]) ∧ w' = boxW w g := by
  go_enter Try.func49, Try.ntmps49
  go_wp2
  go_ret
  exact ⟨rfl, rfl⟩
/-- The world in which Make calls Check. -/
def mkW (w : World) (g : Gr) : World := ((boxW w g).alloc (.cells #[.slice none 0 0, .slice none 0 0] 32)).alloc (.cells #[.int .i64 0] 33)
theorem mkW_below (w : World) (g : Gr) : Below w.heap.size w (mkW w g) := ((box_below w g).alloc (by rw [box_size]; omega) _).alloc (by rw [World.size_alloc, box_size]; omega) _
theorem mkW_size (w : World) (g : Gr) : (mkW w g).heap.size = w.heap.size + 3 := by simp [mkW, boxW]
theorem mkW_r1 (w : World) (g : Gr) : (mkW w g).heap[w.heap.size + 1]? = some (.cells #[.slice none 0 0, .slice none 0 0] 32 (0, 0)) := by
  have h := heap_new (boxW w g) (.cells #[.slice none 0 0, .slice none 0 0] 32)
  rw [box_size] at h
  exact (Below.heap_alloc _ _ _ (by rw [World.size_alloc, box_size]; omega)).trans h
theorem mkW_r2 (w : World) (g : Gr) : (mkW w g).heap[w.heap.size + 1 + 1]? = some (.cells #[.int .i64 0] 33 (0, 0)) := by
  have h := heap_new ((boxW w g).alloc (.cells #[.slice none 0 0, .slice none 0 0] 32)) (.cells #[.int .i64 0] 33)
  rw [World.size_alloc, box_size] at h
  exact h
theorem res_two {fn : Func} (hr : fn.results = #[.cell 2 32, .cell 3 33]) {tmps : Array Value} {W : World} {b1 b2 : Nat} {t1 t2 : TypeId} {v1 v2 : Value} {e : Int} (h2 : tmps.getD 2 undef = .pointer (some ⟨b1, 0, none⟩)) (h3 : tmps.getD 3 undef = .pointer (some ⟨b2, 0, none⟩))
    (r1 : W.heap[b1]? = some (.cells #[v1, v2] t1 (0, 0))) (r2 : W.heap[b2]? = some (.cells #[.int .i64 e] t2 (0, 0))) : (results fn tmps).run Try.prog W = .ok (.tuple #[.agg #[v1, v2], .int .i64 e]) W := by
  have e1 := run_loadVar_row (P := Try.prog) W b1 t1 32 _ (0, 0) _ r1 Try.underlying32 rfl (by kernel_rfl)
  have c2 : W.cell? ⟨b2, 0, none⟩ = some (.int .i64 e) := cell_blk r2 rfl
  have e2 : (loadVar 33 ⟨b2, 0, none⟩).run Try.prog W = .ok (.int .i64 e) W := by
    simp [loadVar, isAgg, run_underlying Try.underlying33, c2]
  have h2' : tmps[2]?.getD undef = .pointer (some ⟨b1, 0, none⟩) := by simpa using h2
  have h3' : tmps[3]?.getD undef = .pointer (some ⟨b2, 0, none⟩) := by simpa using h3
  simp [results, hr, h2', h3', asAddr, e1, e2]
/-- The results' cells are written. -/
theorem end_of {w X : World} {a b c : Value} (hb : Below w.heap.size w X) (r1 : X.heap[w.heap.size + 1]? = some (.cells #[a, b] 32 (0, 0))) (r2 : X.heap[w.heap.size + 1 + 1]? = some (.cells #[c] 33 (0, 0))) (v1 v2 v3 : Value) :
    (((X.setCell ⟨w.heap.size + 1, 0, none⟩ v1).setCell ⟨w.heap.size + 1, 1, none⟩ v2).setCell ⟨w.heap.size + 1 + 1, 0, none⟩ v3).heap[w.heap.size + 1]? = some (.cells #[v1, v2] 32 (0, 0)) ∧
    (((X.setCell ⟨w.heap.size + 1, 0, none⟩ v1).setCell ⟨w.heap.size + 1, 1, none⟩ v2).setCell ⟨w.heap.size + 1 + 1, 0, none⟩ v3).heap[w.heap.size + 1 + 1]? = some (.cells #[v3] 33 (0, 0)) ∧
    Below w.heap.size w (((X.setCell ⟨w.heap.size + 1, 0, none⟩ v1).setCell ⟨w.heap.size + 1, 1, none⟩ v2).setCell ⟨w.heap.size + 1 + 1, 0, none⟩ v3) ∧
    (∀ k, k ≠ w.heap.size + 1 → k ≠ w.heap.size + 1 + 1 → (((X.setCell ⟨w.heap.size + 1, 0, none⟩ v1).setCell ⟨w.heap.size + 1, 1, none⟩ v2).setCell ⟨w.heap.size + 1 + 1, 0, none⟩ v3).heap[k]? = X.heap[k]?) ∧
    (((X.setCell ⟨w.heap.size + 1, 0, none⟩ v1).setCell ⟨w.heap.size + 1, 1, none⟩ v2).setCell ⟨w.heap.size + 1 + 1, 0, none⟩ v3).heap.size = X.heap.size :=
  ⟨(blk_other (by omega)).trans (blk_set (blk_set r1)), blk_set ((blk_other (by omega)).trans ((blk_other (by omega)).trans r2)),
    ((hb.setCell (p := ⟨w.heap.size + 1, 0, none⟩) (by show _ ≤ w.heap.size + 1; omega) _).setCell (p := ⟨w.heap.size + 1, 1, none⟩) (by show _ ≤ w.heap.size + 1; omega) _).setCell (p := ⟨w.heap.size + 1 + 1, 0, none⟩) (by show _ ≤ w.heap.size + 1 + 1; omega) _,
    fun k h1 h2 => (blk_other h2).trans ((blk_other h1).trans (blk_other h1)), by simp [World.setCell]⟩
theorem may_checkF {g : Gr} (h : mayL g = true) : (checkL g).2.2 = 0 := by unfold mayL at h; exact of_decide_eq_true h

set_option maxRecDepth 100000 in
set_option maxHeartbeats 8000000 in
theorem make_no (w : World) (g : Gr) (hI : InG w g) (hz : SzG g) (hcap : ∀ u ∈ g.us, u.roles.length ≤ u.rc) (hm : mayL g = false) :
    Calls Try.prog 17 #[.agg #[.slice g.ga g.gs.length g.gc, .slice g.ea g.es.length g.ec, .slice g.ra g.rs.length g.rc, .slice g.ua g.us.length g.uc]] w fun e w' =>
      e = .returned (.tuple #[.agg #[.slice none 0 0, .slice none 0 0], .int .i64 (checkL g).2.2]) ∧ Below w.heap.size w w' := by
  have C := Lib.hid (check_any (mkW w g) g (hI.below (Nat.le_refl _) (mkW_below w g)) hz hcap)
  have HB := Lib.hid (mkW_below w g)
  have HS := Lib.hid (mkW_size w g)
  have he : (checkL g).2.2 ≠ 0 := fun e => by unfold mayL at hm; simp [e] at hm
  unfold mkW boxW at C HB HS
  clear hI hz hcap hm
  go_enter Try.func17, Try.ntmps17
  go_wp2_with fail
  refine C.out.mono ?_
  rintro e w1 ⟨rfl, hb⟩
  have HB1 := Lib.hid (HB.out.trans (hb.mono (by rw [HS.out]; omega)))
  have hw1 := hb.size
  rw [HS.out] at hw1
  have r1 := (hb.block (w.heap.size + 1) (by rw [HS.out]; omega)).trans (mkW_r1 w g)
  have r2 := (hb.block (w.heap.size + 1 + 1) (by rw [HS.out]; omega)).trans (mkW_r2 w g)
  have c0 : w1.cell? ⟨w.heap.size + 1, 0, none⟩ = some (.slice none 0 0) := cell_blk r1 rfl
  have c1 : w1.cell? ⟨w.heap.size + 1, 1, none⟩ = some (.slice none 0 0) := cell_blk r1 rfl
  have c2 : w1.cell? ⟨w.heap.size + 1 + 1, 0, none⟩ = some (.int .i64 0) := cell_blk r2 rfl
  have f0 := frozen_blk (i := 0) r1
  have f1 := frozen_blk (i := 1) r1
  have f2 := frozen_blk (i := 0) r2
  have HW := fun v1 v2 v3 => Lib.hid (end_of HB1.out r1 r2 v1 v2 v3)
  have l1 : w.heap.size + 1 < w1.heap.size := by omega
  have l2 : w.heap.size + 1 + 1 < w1.heap.size := by omega
  clear r1 r2
  generalize (checkL g).1 = q1 at *
  generalize hq3 : (checkL g).2.2 = q3 at *
  generalize (checkL g).2.1 = q2 at *
  clear C HB HS hb
  go_wp2_with fail
  obtain ⟨e1, e2, e3, _, e5⟩ := (HW (.slice none 0 0) (.slice none 0 0) (.int .i64 (q3 : Int))).out
  exact bodyPost_ret (res_two rfl rfl rfl ((Below.heap_alloc _ _ _ (by rw [e5]; omega)).trans e1) ((Below.heap_alloc _ _ _ (by rw [e5]; omega)).trans e2)) rfl ⟨by rw [← hq3], e3.alloc (by rw [e5]; omega) _⟩
end Go.Proofs.Ytplplkchibefjaa
