/-
  Contracts of package heap: compare, ahead.
-/
import Derived.Test.YtcipgjelbnmdiaaHpC
import Derived.StillTailTactics
namespace Go.Proofs.Ytcipgjelbnmdiaa.HP
open Go.RowKit Go.Shelf Go.Proofs.Ytcipgjelbnmdiaa.B
attribute [local go_sem] Oper.semAt_some

/-- Which of two comes first: below 0, the one. -/
def cmpL (s : Int) (x y : It) : Int := if cmpI (wt s y) (wt s x) = 0 then cmpI x.id y.id else cmpI (wt s y) (wt s x)
theorem cmpI_lt {a b : Int} : cmpI a b < 0 ↔ a < b := by
  unfold cmpI
  split
  · simp; omega
  · split <;> simp <;> omega
theorem cmpI_eq {a b : Int} : cmpI a b = 0 ↔ a = b := by
  unfold cmpI
  split
  · simp; omega
  · split <;> simp <;> omega
theorem cmpL_ah (s : Int) (x y : It) : decide (cmpL s x y < 0) = ahB s x y := by
  unfold cmpL
  rw [Bool.eq_iff_iff, decide_eq_true_eq, ah_iff]
  by_cases h : cmpI (wt s y) (wt s x) = 0
  · rw [if_pos h, cmpI_lt]
    rw [cmpI_eq] at h
    omega
  · rw [if_neg h, cmpI_lt]
    rw [cmpI_eq] at h
    omega
set_option maxRecDepth 100000 in
set_option maxHeartbeats 8000000 in
theorem compare_any (w : World) (hb : Nat) (s : Int) (hc : w.cell? ⟨hb, 0, none⟩ = some (.int .i64 s)) (h1 : 1 ≤ s) (h2 : s ≤ 1048576) (x y : It) (hx : OkI x) (hy : OkI y) :
    Calls Try.prog 50 #[pt hb, itV x, itV y] w fun e w' => e = .returned (.int .i64 (cmpL s x y)) ∧ Below w.heap.size w w' := by
  have hl := World.block_lt_of_cell? _ _ hc
  have HE : Hid (cmpL s x y = if cmpI (wt s y) (wt s x) = 0 then cmpI x.id y.id else cmpI (wt s y) (wt s x)) := Lib.hid rfl
  rw [HE.out]
  clear HE
  have CW := Lib.hid (fun (W : World) (z : It) (hz : OkI z) (hW : W.cell? ⟨hb, 0, none⟩ = some (.int .i64 s)) => (weight_any W hb s hW h1 h2 z hz 0 (by omega) (by omega)).mono (fun e w' h => show e = .returned (.int .i64 (wt s z)) ∧ Below W.heap.size W w' from ⟨h.1.trans (by unfold wt; rw [Int.add_zero]), h.2⟩))
  have CX := Lib.hid (fun W hW => CW.out W x hx hW)
  have CY := Lib.hid (fun W hW => CW.out W y hy hW)
  clear CW
  generalize wt s x = wx at *
  generalize wt s y = wy at *
  obtain ⟨xi, xb, xs⟩ := x
  obtain ⟨yi, yb, ys⟩ := y
  simp only
  generalize hrr : (if cmpI wy wx = 0 then cmpI xi yi else cmpI wy wx) = rr
  have HRR := Lib.hid hrr
  clear hrr
  obtain ⟨W0, hW0⟩ : ∃ W0, W0 = ((w.alloc (.cells #[.int .i64 xi, .int .i64 xb, .int .i64 xs] 32)).alloc (.cells #[.int .i64 yi, .int .i64 yb, .int .i64 ys] 32)) := ⟨_, rfl⟩
  have hB0 : Below w.heap.size w W0 := by rw [hW0]; exact ((Below.refl _ _).alloc (Nat.le_refl _) _).alloc (by rw [World.size_alloc]; omega) _
  have X : W0.heap[w.heap.size]? = some (.cells #[.int .i64 xi, .int .i64 xb, .int .i64 xs] 32 (0, 0)) := by rw [hW0]; exact (Below.heap_alloc _ _ _ (by rw [World.size_alloc]; omega)).trans (heap_new w _)
  have Y : W0.heap[w.heap.size + 1]? = some (.cells #[.int .i64 yi, .int .i64 yb, .int .i64 ys] 32 (0, 0)) := by rw [hW0, ← World.size_alloc w (.cells #[.int .i64 xi, .int .i64 xb, .int .i64 xs] 32)]; exact heap_new _ _
  have SC := Lib.hid (fun W (hW : Below W0.heap.size W0 W) => show W.cell? ⟨w.heap.size, 0, none⟩ = some (.int .i64 xi) ∧ W.cell? ⟨w.heap.size, 1, none⟩ = some (.int .i64 xb) ∧ W.cell? ⟨w.heap.size, 2, none⟩ = some (.int .i64 xs) ∧ W.cell? ⟨w.heap.size + 1, 0, none⟩ = some (.int .i64 yi) ∧ W.cell? ⟨w.heap.size + 1, 1, none⟩ = some (.int .i64 yb) ∧ W.cell? ⟨w.heap.size + 1, 2, none⟩ = some (.int .i64 ys) from by
    have X' := (hW.block _ (blk_lt X)).trans X
    have Y' := (hW.block _ (blk_lt Y)).trans Y
    exact ⟨cell_blk (i := 0) X' rfl, cell_blk (i := 1) X' rfl, cell_blk (i := 2) X' rfl, cell_blk (i := 0) Y' rfl, cell_blk (i := 1) Y' rfl, cell_blk (i := 2) Y' rfl⟩)
  have U : Hid (Below W0.heap.size W0 W0.drew) := Lib.hid (below_draws (Below.refl _ _) 1)
  have T : Hid (Below w.heap.size w W0.drew) := Lib.hid (below_draws hB0 1)
  have S := Lib.hid (SC.out _ U.out)
  clear X Y hB0
  go_enter Try.func50, Try.ntmps50
  go_wp2_with fail
  rw [← hW0]
  clear hW0
  refine wp_region_T (S := fun W => W.cell? ⟨w.heap.size, 0, none⟩ = some (.int .i64 xi) ∧ W.cell? ⟨w.heap.size, 1, none⟩ = some (.int .i64 xb) ∧ W.cell? ⟨w.heap.size, 2, none⟩ = some (.int .i64 xs) ∧ W.cell? ⟨w.heap.size + 1, 0, none⟩ = some (.int .i64 yi) ∧ W.cell? ⟨w.heap.size + 1, 1, none⟩ = some (.int .i64 yb) ∧ W.cell? ⟨w.heap.size + 1, 2, none⟩ = some (.int .i64 ys)) (z := 15) (by kernel_rfl) ?_
  generalize W0.drew = V0 at *
  refine anyT_takeU (i := 0) (v := ?_) (by decide) rfl (by kernel_rfl) (by kernel_rfl) (by kernel_rfl) (fun _ _ _ h => h) S.out (by rfl) ?_ ?_
  rotate_left
  · intro W9 hSw
    obtain ⟨q0, q1, q2, q3, q4, q5⟩ := hSw
    go_simp
    try with_reducible rfl
  simp only [Act.put, List.setIfInBounds_toArray]
  try simp only [List.set_cons_zero, List.set_cons_succ]
  try simp only [List.getElem_toArray]
  repeat (first | simp only [List.getElem_cons_zero] | simp only [List.getElem_cons_succ])
  refine anyT_takeU (i := 1) (v := ?_) (by decide) rfl (by kernel_rfl) (by kernel_rfl) (by kernel_rfl) (fun _ _ _ h => h) S.out (by rfl) ?_ ?_
  rotate_left
  · intro W9 hSw
    obtain ⟨q0, q1, q2, q3, q4, q5⟩ := hSw
    go_simp
    try with_reducible rfl
  simp only [Act.put, List.setIfInBounds_toArray]
  try simp only [List.set_cons_zero, List.set_cons_succ]
  try simp only [List.getElem_toArray]
  repeat (first | simp only [List.getElem_cons_zero] | simp only [List.getElem_cons_succ])
  refine anyT_takeU (i := 3) (v := ?_) (by decide) rfl (by kernel_rfl) (by kernel_rfl) (by kernel_rfl) (fun _ _ _ h => h) S.out (by rfl) ?_ ?_
  rotate_left
  · intro W9 hSw
    obtain ⟨q0, q1, q2, q3, q4, q5⟩ := hSw
    go_simp
    try with_reducible rfl
  simp only [Act.put, List.setIfInBounds_toArray]
  try simp only [List.set_cons_zero, List.set_cons_succ]
  try simp only [List.getElem_toArray]
  repeat (first | simp only [List.getElem_cons_zero] | simp only [List.getElem_cons_succ])
  refine anyT_takeU (i := 4) (v := ?_) (by decide) rfl (by kernel_rfl) (by kernel_rfl) (by kernel_rfl) (fun _ _ _ h => h) S.out (by rfl) ?_ ?_
  rotate_left
  · intro W9 hSw
    obtain ⟨q0, q1, q2, q3, q4, q5⟩ := hSw
    go_simp
    try with_reducible rfl
  simp only [Act.put, List.setIfInBounds_toArray]
  try simp only [List.set_cons_zero, List.set_cons_succ]
  try simp only [List.getElem_toArray]
  repeat (first | simp only [List.getElem_cons_zero] | simp only [List.getElem_cons_succ])
  refine anyT_takeU (i := 7) (v := ?_) (by decide) rfl (by kernel_rfl) (by kernel_rfl) (by kernel_rfl) (fun _ _ _ h => h) S.out (by rfl) ?_ ?_
  rotate_left
  · intro W9 hSw
    obtain ⟨q0, q1, q2, q3, q4, q5⟩ := hSw
    go_simp
    try with_reducible rfl
  simp only [Act.put, List.setIfInBounds_toArray]
  try simp only [List.set_cons_zero, List.set_cons_succ]
  try simp only [List.getElem_toArray]
  repeat (first | simp only [List.getElem_cons_zero] | simp only [List.getElem_cons_succ])
  refine anyT_takeU (i := 8) (v := ?_) (by decide) rfl (by kernel_rfl) (by kernel_rfl) (by kernel_rfl) (fun _ _ _ h => h) S.out (by rfl) ?_ ?_
  rotate_left
  · intro W9 hSw
    obtain ⟨q0, q1, q2, q3, q4, q5⟩ := hSw
    go_simp
    try with_reducible rfl
  simp only [Act.put, List.setIfInBounds_toArray]
  try simp only [List.set_cons_zero, List.set_cons_succ]
  try simp only [List.getElem_toArray]
  repeat (first | simp only [List.getElem_cons_zero] | simp only [List.getElem_cons_succ])
  refine anyT_takeU (i := 9) (v := ?_) (by decide) rfl (by kernel_rfl) (by kernel_rfl) (by kernel_rfl) (fun _ _ _ h => h) S.out (by rfl) ?_ ?_
  rotate_left
  · intro W9 hSw
    obtain ⟨q0, q1, q2, q3, q4, q5⟩ := hSw
    go_simp
    try with_reducible rfl
  simp only [Act.put, List.setIfInBounds_toArray]
  try simp only [List.set_cons_zero, List.set_cons_succ]
  try simp only [List.getElem_toArray]
  repeat (first | simp only [List.getElem_cons_zero] | simp only [List.getElem_cons_succ])
  refine anyT_takeU (i := 10) (v := ?_) (by decide) rfl (by kernel_rfl) (by kernel_rfl) (by kernel_rfl) (fun _ _ _ h => h) S.out (by rfl) ?_ ?_
  rotate_left
  · intro W9 hSw
    obtain ⟨q0, q1, q2, q3, q4, q5⟩ := hSw
    go_simp
    try with_reducible rfl
  simp only [Act.put, List.setIfInBounds_toArray]
  try simp only [List.set_cons_zero, List.set_cons_succ]
  try simp only [List.getElem_toArray]
  repeat (first | simp only [List.getElem_cons_zero] | simp only [List.getElem_cons_succ])
  refine anyT_one' (i := 2) (by kernel_rfl) rfl (by rfl) (fun K hK => ?_)
  have HK := Lib.hid hK
  clear hK
  unfold Oper.wp
  go_simp
  refine (CY.out _ ((T.out.cell (p := ⟨hb, 0, none⟩) hl).trans hc)).mono ?_
  rintro e w9 ⟨rfl, hb9⟩
  replace U := Lib.hid (U.out.trans (hb9.mono U.out.size))
  replace T := Lib.hid (T.out.trans (hb9.mono T.out.size))
  replace S := Lib.hid (SC.out _ U.out)
  clear hb9
  dsimp only
  refine HK.out _ _ (fun _ => S.out) ?_
  clear HK K
  refine anyT_one' (i := 5) (by kernel_rfl) rfl (by rfl) (fun K hK => ?_)
  have HK := Lib.hid hK
  clear hK
  unfold Oper.wp
  go_simp
  refine (CX.out _ ((T.out.cell (p := ⟨hb, 0, none⟩) hl).trans hc)).mono ?_
  rintro e w9 ⟨rfl, hb9⟩
  replace U := Lib.hid (U.out.trans (hb9.mono U.out.size))
  replace T := Lib.hid (T.out.trans (hb9.mono T.out.size))
  replace S := Lib.hid (SC.out _ U.out)
  clear hb9
  dsimp only
  refine HK.out _ _ (fun _ => S.out) ?_
  clear HK K
  refine anyT_one' (i := 6) (by kernel_rfl) rfl (by rfl) (fun K hK => ?_)
  have HK := Lib.hid hK
  clear hK
  unfold Oper.wp
  go_simp
  refine (cmp_any _ wy wx).mono ?_
  rintro e w9 ⟨rfl, hww⟩
  subst hww
  dsimp only
  refine HK.out _ _ (fun _ => S.out) ?_
  clear HK K
  refine anyT_one' (i := 11) (by kernel_rfl) rfl (by rfl) (fun K hK => ?_)
  have HK := Lib.hid hK
  clear hK
  unfold Oper.wp
  go_simp
  refine (cmp_any _ xi yi).mono ?_
  rintro e w9 ⟨rfl, hww⟩
  subst hww
  generalize hc1 : cmpI wy wx = c1 at *
  generalize hc2 : cmpI xi yi = c2 at *
  dsimp only
  refine HK.out _ _ (fun _ => S.out) ?_
  clear HK K
  refine anyT_one' (i := 12) (by kernel_rfl) rfl (by rfl) (fun K hK => ?_)
  have HK := Lib.hid hK
  clear hK
  unfold Oper.wp
  go_simp
  replace U := Lib.hid (U.out.alloc U.out.size (.cells #[.int .i64 c1, .int .i64 c2] 3))
  replace T := Lib.hid (T.out.alloc T.out.size (.cells #[.int .i64 c1, .int .i64 c2] 3))
  replace S := Lib.hid (SC.out _ U.out)
  refine HK.out _ _ (fun _ => S.out) ?_
  clear HK K
  refine anyT_one' (i := 13) (by kernel_rfl) rfl (by rfl) (fun K hK => ?_)
  have HK := Lib.hid hK
  clear hK
  unfold Oper.wp
  go_simp
  refine (or_any _ _ c1 c2 (cell_blk (i := 0) (heap_new _ _) rfl) (cell_blk (i := 1) (heap_new _ _) rfl)).mono ?_
  rintro e w9 ⟨rfl, hww⟩
  subst hww
  rw [show (if c1 = 0 then c2 else c1) = rr from HRR.out]
  dsimp only
  refine HK.out _ _ (fun _ => S.out) ?_
  clear HK K
  refine anyT_one' (i := 14) (by kernel_rfl) rfl (by rfl) (fun K hK => ?_)
  have HK := Lib.hid hK
  clear hK
  unfold Oper.wp
  go_simp
  refine HK.out _ _ (fun _ => S.out) ?_
  clear HK K
  refine anyT_done (by kernel_rfl) ?_ _
  go_wp2_with fail
  go_ret
  exact ⟨rfl, T.out⟩
set_option maxRecDepth 100000 in
set_option maxHeartbeats 4000000 in
theorem ahead_any (w : World) (hb : Nat) (A : HA) (s : Int) (L : List It) (h : HpI w hb A s L) (i j : Nat) (hi : i < L.length) (hj : j < L.length) :
    Calls Try.prog 59 #[pt hb, .int .i64 (i : Int), .int .i64 (j : Int)] w fun e w' => e = .returned (.bool (ahB s L[i]! L[j]!)) ∧ Below w.heap.size w w' := by
  obtain ⟨ia, ic, pb⟩ := A
  have hc0 := cell_blk (i := 0) h.box rfl
  have c1 : w.drew.cell? ⟨hb, 1, none⟩ = some (.slice ia L.length ic) := cell_blk (i := 1) h.box rfl
  have CC := Lib.hid (compare_any w.drew hb s hc0 h.step.1 h.step.2 L[i]! L[j]! (h.ok _ (mem_at hi)) (h.ok _ (mem_at hj)))
  have hl : hb < w.drew.heap.size := h.lt
  obtain ⟨B, hr⟩ := h.row
  obtain ⟨b, off, hA, hbl, k0⟩ := (Row.of_own hr).at_ (k := 3) (fun _ => rfl) (by omega) hi
  obtain ⟨b', off', hA', _, m0⟩ := (Row.of_own hr).at_ (k := 3) (fun _ => rfl) (by omega) hj
  obtain rfl : ia = some ⟨b, off, none⟩ := hA
  obtain ⟨rfl, rfl⟩ : b = b' ∧ off = off' := by injection hA' with e; injection e with e1 e2 _; exact ⟨e1, e2⟩
  have x0 : w.drew.cell? ⟨b, off + i * 3, none⟩ = some (.int .i64 L[i]!.id) := by have := k0 0 _ rfl; rw [Nat.add_zero] at this; exact this
  have x1 : w.drew.cell? ⟨b, off + i * 3 + 1, none⟩ = some (.int .i64 L[i]!.base) := k0 1 _ rfl
  have x2 : w.drew.cell? ⟨b, off + i * 3 + 2, none⟩ = some (.int .i64 L[i]!.since) := k0 2 _ rfl
  have y0 : w.drew.cell? ⟨b, off + j * 3, none⟩ = some (.int .i64 L[j]!.id) := by have := m0 0 _ rfl; rw [Nat.add_zero] at this; exact this
  have y1 : w.drew.cell? ⟨b, off + j * 3 + 1, none⟩ = some (.int .i64 L[j]!.base) := m0 1 _ rfl
  have y2 : w.drew.cell? ⟨b, off + j * 3 + 2, none⟩ = some (.int .i64 L[j]!.since) := m0 2 _ rfl
  have i0 : (0 : Int) ≤ (i : Int) := Int.natCast_nonneg _
  have i1 : (i : Int) < (L.length : Int) := by omega
  have j0 : (0 : Int) ≤ (j : Int) := Int.natCast_nonneg _
  have j1 : (j : Int) < (L.length : Int) := by omega
  have hbl' : b < w.drew.heap.size := hbl
  have HD := Lib.hid (cmpL_ah s L[i]! L[j]!)
  have hB := Lib.hid (below_draws (Below.refl w.heap.size w) 1)
  clear h hr k0 m0 hA' hc0
  generalize cmpL s L[i]! L[j]! = cc at *
  generalize ahB s L[i]! L[j]! = bb at *
  generalize L[i]! = x at *
  generalize L[j]! = y at *
  go_enter Try.func59, Try.ntmps59
  go_wp2_with fail
  refine wp_region_still_tail 15 mixed (by kernel_rfl) ?_
  simp only [List.take_succ_cons, List.take_zero, List.drop_succ_cons, List.drop_zero]
  iterate 15 still_step
  refine wpStill_nil ?_
  go_wp2_with (go_at_call 50; refine CC.out.mono ?_; rintro e w9 ⟨rfl, hb9⟩)
  go_ret
  exact ⟨ret_bool HD.out, hB.out.trans (hb9.mono (Nat.le_refl _))⟩
end Go.Proofs.Ytcipgjelbnmdiaa.HP
