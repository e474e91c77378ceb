/-
  Contract of package heap: swap.
-/
import Derived.Test.YtcipgjelbnmdiaaHpF
namespace Go.Proofs.Ytcipgjelbnmdiaa.HP
open Go.RowKit Go.Shelf Go.Proofs.Ytcipgjelbnmdiaa.B Go.ChangeMaps
attribute [local go_sem] Oper.semAt_some

section
variable {P : Program} {ops : Array Oper} {Q : Exit → Act → World → Prop} {md : Region.Mode} {S : World → Prop} {z : Nat}
/-- Whichever of these comes up. -/
def AllT (P : Program) (md : Region.Mode) (ops : Array Oper) (Q : Exit → Act → World → Prop) (S : World → Prop) (z fuel : Nat) (listed : Array Bool) (a : Act) (w : World) (rs : List Nat) : Prop :=
  ∀ i ∈ rs, wpOp P ops Q i (fun a' w' => (i ≠ z → S w') ∧ wpAnyT P md ops Q S z fuel (listed.setIfInBounds i true) a' w') a w
theorem AllT.nil {fuel : Nat} {listed : Array Bool} {a : Act} {w : World} : AllT P md ops Q S z fuel listed a w [] := fun _ h => by cases h
theorem AllT.cons {i : Nat} {oi : Oper} {rs : List Nat} {fuel : Nat} {listed : Array Bool} {a : Act} {w : World} (hi : ops[i]? = some oi) (hwant : Region.wanted oi (yielded ops a.tmps) = true)
    (h : ∀ K : Act → World → Prop, (∀ a' w', (i ≠ z → S w') → wpAnyT P md ops Q S z fuel (listed.setIfInBounds i true) a' w' → K a' w') → oi.wp P a w K Q)
    (hs : AllT P md ops Q S z fuel listed a w rs) : AllT P md ops Q S z fuel listed a w (i :: rs) := fun j hj => by
  rcases List.mem_cons.1 hj with rfl | hj
  · unfold wpOp
    simp only [hi, hwant, if_true]
    exact .inl (h _ fun _ _ h1 h2 => ⟨h1, h2⟩)
  · exact hs j hj
theorem anyT_ready {rs : List Nat} {fuel : Nat} {listed : Array Bool} {a : Act} {w : World} (hr : Region.ready md ops listed = rs) (hne : rs ≠ []) (h : AllT P md ops Q S z fuel listed a w rs) : wpAnyT P md ops Q S z (fuel + 1) listed a w :=
  ⟨fun h0 => absurd (hr.symm.trans h0) hne, fun j hj => h j (by rwa [hr] at hj)⟩
/-- What a region leaves, whatever its order. -/
theorem wp_region_post {V : Type} {id : Nat} {l : Array Oper} {b : Bool} {a : Act} {w : World} (F : V → Act → Act) (G : V → World → Prop)
    (h1 : (Code.region id l b).wp P (fun e a' w' => e = .normal ∧ ∃ x, a' = F x a ∧ G x w') a w) (h2 : ∀ x w', G x w' → Q .normal (F x a) w') : (Code.region id l b).wp P Q a w :=
  Code.wp_mono (by rintro e a' w' ⟨rfl, x, rfl, hG⟩; exact h2 x w' hG) h1
end
/-- Both items lie in boxes of their own. -/
structure TwoB (w : World) (x y : It) (v : Nat × Nat) (W : World) : Prop where
  b : Below w.heap.size w W
  l1 : w.heap.size ≤ v.1
  l2 : w.heap.size ≤ v.2
  ne : v.1 ≠ v.2
  x : W.heap[v.1]? = some (.cells #[.int .i64 x.id, .int .i64 x.base, .int .i64 x.since] 32 (0, 0))
  y : W.heap[v.2]? = some (.cells #[.int .i64 y.id, .int .i64 y.base, .int .i64 y.since] 32 (0, 0))
set_option maxRecDepth 100000 in
set_option maxHeartbeats 16000000 in
theorem swap_any (w0 : FW) (w : World) (hb : Nat) (A : HA) (s : Int) (L : List It) (h : HW w0 w hb A s L) (i j : Nat) (hi : i < L.length) (hj : j < L.length) :
    Calls Try.prog 60 #[pt hb, .int .i64 (i : Int), .int .i64 (j : Int)] w fun e w' => e = .returned (.tuple #[]) ∧ HW w0 w' hb A s (sw L i j) := by
  have HH := Lib.hid h
  obtain ⟨g, B, cur, hA, hgB, hgc, hgh, hgp, hgl, hrow⟩ := h.h.blk (by omega)
  have HROW := Lib.hid hrow
  obtain ⟨ia, ic, pb⟩ := A
  obtain rfl : ia = some ⟨g, 0, none⟩ := hA
  have hbox := h.h.box
  have x0 := (hrow.cellAt (i * 3 + 0) (by omega)).trans (flat_at itC 3 (fun _ => rfl) L i hi 0 (by omega))
  have x1 := (hrow.cellAt (i * 3 + 1) (by omega)).trans (flat_at itC 3 (fun _ => rfl) L i hi 1 (by omega))
  have x2 := (hrow.cellAt (i * 3 + 2) (by omega)).trans (flat_at itC 3 (fun _ => rfl) L i hi 2 (by omega))
  have y0 := (hrow.cellAt (j * 3 + 0) (by omega)).trans (flat_at itC 3 (fun _ => rfl) L j hj 0 (by omega))
  have y1 := (hrow.cellAt (j * 3 + 1) (by omega)).trans (flat_at itC 3 (fun _ => rfl) L j hj 1 (by omega))
  have y2 := (hrow.cellAt (j * 3 + 2) (by omega)).trans (flat_at itC 3 (fun _ => rfl) L j hj 2 (by omega))
  have i0 : (0 : Int) ≤ (i : Int) := Int.natCast_nonneg _
  have i1 : (i : Int) < (L.length : Int) := by omega
  have j0 : (0 : Int) ≤ (j : Int) := Int.natCast_nonneg _
  have j1 : (j : Int) < (L.length : Int) := by omega
  have hbl := h.h.lt
  have HX := Lib.hid (mem_at hi)
  have HOX := Lib.hid (h.h.ok _ (mem_at hi))
  have HOY := Lib.hid (h.h.ok _ (mem_at hj))
  have S0 := Lib.hid (fun W (hW : Below w.heap.size w W) => show W.cell? ⟨hb, 1, none⟩ = some (.slice (some ⟨g, 0, none⟩) L.length ic) ∧ W.cell? ⟨g, i * 3, none⟩ = some (.int .i64 L[i]!.id) ∧ W.cell? ⟨g, i * 3 + 1, none⟩ = some (.int .i64 L[i]!.base) ∧ W.cell? ⟨g, i * 3 + 2, none⟩ = some (.int .i64 L[i]!.since) ∧ W.cell? ⟨g, j * 3, none⟩ = some (.int .i64 L[j]!.id) ∧ W.cell? ⟨g, j * 3 + 1, none⟩ = some (.int .i64 L[j]!.base) ∧ W.cell? ⟨g, j * 3 + 2, none⟩ = some (.int .i64 L[j]!.since) ∧ hb < W.heap.size ∧ g < W.heap.size from
    ⟨(hW.cell (p := ⟨hb, 1, none⟩) hbl).trans (cell_blk (i := 1) hbox rfl), (hW.cell (p := ⟨g, _, none⟩) hgl).trans x0, (hW.cell (p := ⟨g, _, none⟩) hgl).trans x1, (hW.cell (p := ⟨g, _, none⟩) hgl).trans x2, (hW.cell (p := ⟨g, _, none⟩) hgl).trans y0, (hW.cell (p := ⟨g, _, none⟩) hgl).trans y1, (hW.cell (p := ⟨g, _, none⟩) hgl).trans y2, by have := hW.size; omega, by have := hW.size; omega⟩)
  clear h x0 x1 x2 y0 y1 y2 hrow
  obtain ⟨x, hx⟩ : ∃ x, x = L[i]! := ⟨_, rfl⟩
  obtain ⟨y, hy⟩ : ∃ y, y = L[j]! := ⟨_, rfl⟩
  rw [← hx] at S0 HX HOX
  rw [← hy] at S0 HOY
  have HXE := Lib.hid hx
  have HYE := Lib.hid hy
  clear hx hy HX
  obtain ⟨xi, xb, xs⟩ := x
  obtain ⟨yi, yb, ys⟩ := y
  go_enter Try.func60, Try.ntmps60
  go_wp2_with fail
  refine wp_region_post (V := Nat × Nat) (fun v a => ((((((((((((((((a.put (some 8) (pt hb)).put (some 9) (pt hb)).put (some 10) (.pointer (some ⟨hb, 1, none⟩))).put (some 11) (.slice (some ⟨g, 0, none⟩) L.length ic)).put (some 12) (.int .i64 (i : Int))).put (some 13) (.pointer (some ⟨g, i * 3, none⟩))).put (some 14) (.agg #[.int .i64 xi, .int .i64 xb, .int .i64 xs])).put (some 15) (pt hb)).put (some 16) (pt hb)).put (some 17) (.pointer (some ⟨hb, 1, none⟩))).put (some 18) (.slice (some ⟨g, 0, none⟩) L.length ic)).put (some 19) (.int .i64 (j : Int))).put (some 20) (.pointer (some ⟨g, j * 3, none⟩))).put (some 21) (.agg #[.int .i64 yi, .int .i64 yb, .int .i64 ys])).put (some 6) (pt v.1)).put (some 7) (pt v.2))) (fun v w' => TwoB w ⟨xi, xb, xs⟩ ⟨yi, yb, ys⟩ v w') ?_ ?_
  · have T0 : Hid (Below w.heap.size w w.drew) := Lib.hid (below_draws (Below.refl _ _) 1)
    refine wp_region_T (S := fun w' => Below w.heap.size w w') (z := 18) (by kernel_rfl) ?_
    generalize hW0 : w.drew = W0 at *
    clear hW0
    refine anyT_takeU (i := 0) (v := ?_) (by decide) rfl (by kernel_rfl) (by kernel_rfl) (by kernel_rfl) (fun _ _ _ h => absurd h.1 (by simp)) T0.out (by rfl) ?_ ?_
    rotate_left
    · intro W9 hSw
      obtain ⟨q0, q1, q2, q3, q4, q5, q6, q7, q8⟩ := S0.out W9 hSw
      go_simp
      try with_reducible rfl
    simp only [Act.put, List.setIfInBounds_toArray]
    try simp only [List.set_cons_zero, List.set_cons_succ]
    try simp only [List.getElem_toArray]
    repeat (first | simp only [List.getElem_cons_zero] | simp only [List.getElem_cons_succ])
    refine anyT_takeU (i := 1) (v := ?_) (by decide) rfl (by kernel_rfl) (by kernel_rfl) (by kernel_rfl) (fun _ _ _ h => absurd h.1 (by simp)) T0.out (by rfl) ?_ ?_
    rotate_left
    · intro W9 hSw
      obtain ⟨q0, q1, q2, q3, q4, q5, q6, q7, q8⟩ := S0.out W9 hSw
      go_simp
      try with_reducible rfl
    simp only [Act.put, List.setIfInBounds_toArray]
    try simp only [List.set_cons_zero, List.set_cons_succ]
    try simp only [List.getElem_toArray]
    repeat (first | simp only [List.getElem_cons_zero] | simp only [List.getElem_cons_succ])
    refine anyT_takeU (i := 2) (v := ?_) (by decide) rfl (by kernel_rfl) (by kernel_rfl) (by kernel_rfl) (fun _ _ _ h => absurd h.1 (by simp)) T0.out (by rfl) ?_ ?_
    rotate_left
    · intro W9 hSw
      obtain ⟨q0, q1, q2, q3, q4, q5, q6, q7, q8⟩ := S0.out W9 hSw
      go_simp
      try with_reducible rfl
    simp only [Act.put, List.setIfInBounds_toArray]
    try simp only [List.set_cons_zero, List.set_cons_succ]
    try simp only [List.getElem_toArray]
    repeat (first | simp only [List.getElem_cons_zero] | simp only [List.getElem_cons_succ])
    refine anyT_takeU (i := 3) (v := ?_) (by decide) rfl (by kernel_rfl) (by kernel_rfl) (by kernel_rfl) (fun _ _ _ h => absurd h.1 (by simp)) T0.out (by rfl) ?_ ?_
    rotate_left
    · intro W9 hSw
      obtain ⟨q0, q1, q2, q3, q4, q5, q6, q7, q8⟩ := S0.out W9 hSw
      go_simp
      try with_reducible rfl
    simp only [Act.put, List.setIfInBounds_toArray]
    try simp only [List.set_cons_zero, List.set_cons_succ]
    try simp only [List.getElem_toArray]
    repeat (first | simp only [List.getElem_cons_zero] | simp only [List.getElem_cons_succ])
    refine anyT_takeU (i := 4) (v := ?_) (by decide) rfl (by kernel_rfl) (by kernel_rfl) (by kernel_rfl) (fun _ _ _ h => absurd h.1 (by simp)) T0.out (by rfl) ?_ ?_
    rotate_left
    · intro W9 hSw
      obtain ⟨q0, q1, q2, q3, q4, q5, q6, q7, q8⟩ := S0.out W9 hSw
      go_simp
      try with_reducible rfl
    simp only [Act.put, List.setIfInBounds_toArray]
    try simp only [List.set_cons_zero, List.set_cons_succ]
    try simp only [List.getElem_toArray]
    repeat (first | simp only [List.getElem_cons_zero] | simp only [List.getElem_cons_succ])
    refine anyT_takeU (i := 5) (v := ?_) (by decide) rfl (by kernel_rfl) (by kernel_rfl) (by kernel_rfl) (fun _ _ _ h => absurd h.1 (by simp)) T0.out (by rfl) ?_ ?_
    rotate_left
    · intro W9 hSw
      obtain ⟨q0, q1, q2, q3, q4, q5, q6, q7, q8⟩ := S0.out W9 hSw
      go_simp
      try with_reducible rfl
    simp only [Act.put, List.setIfInBounds_toArray]
    try simp only [List.set_cons_zero, List.set_cons_succ]
    try simp only [List.getElem_toArray]
    repeat (first | simp only [List.getElem_cons_zero] | simp only [List.getElem_cons_succ])
    refine anyT_takeU (i := 6) (v := ?_) (by decide) rfl (by kernel_rfl) (by kernel_rfl) (by kernel_rfl) (fun _ _ _ h => absurd h.1 (by simp)) T0.out (by rfl) ?_ ?_
    rotate_left
    · intro W9 hSw
      obtain ⟨q0, q1, q2, q3, q4, q5, q6, q7, q8⟩ := S0.out W9 hSw
      go_simp
      try with_reducible rfl
    simp only [Act.put, List.setIfInBounds_toArray]
    try simp only [List.set_cons_zero, List.set_cons_succ]
    try simp only [List.getElem_toArray]
    repeat (first | simp only [List.getElem_cons_zero] | simp only [List.getElem_cons_succ])
    refine anyT_takeU (i := 7) (v := ?_) (by decide) rfl (by kernel_rfl) (by kernel_rfl) (by kernel_rfl) (fun _ _ _ h => absurd h.1 (by simp)) T0.out (by rfl) ?_ ?_
    rotate_left
    · intro W9 hSw
      obtain ⟨q0, q1, q2, q3, q4, q5, q6, q7, q8⟩ := S0.out W9 hSw
      go_simp
      try with_reducible rfl
    simp only [Act.put, List.setIfInBounds_toArray]
    try simp only [List.set_cons_zero, List.set_cons_succ]
    try simp only [List.getElem_toArray]
    repeat (first | simp only [List.getElem_cons_zero] | simp only [List.getElem_cons_succ])
    refine anyT_takeU (i := 8) (v := ?_) (by decide) rfl (by kernel_rfl) (by kernel_rfl) (by kernel_rfl) (fun _ _ _ h => absurd h.1 (by simp)) T0.out (by rfl) ?_ ?_
    rotate_left
    · intro W9 hSw
      obtain ⟨q0, q1, q2, q3, q4, q5, q6, q7, q8⟩ := S0.out W9 hSw
      go_simp
      try with_reducible rfl
    simp only [Act.put, List.setIfInBounds_toArray]
    try simp only [List.set_cons_zero, List.set_cons_succ]
    try simp only [List.getElem_toArray]
    repeat (first | simp only [List.getElem_cons_zero] | simp only [List.getElem_cons_succ])
    refine anyT_takeU (i := 9) (v := ?_) (by decide) rfl (by kernel_rfl) (by kernel_rfl) (by kernel_rfl) (fun _ _ _ h => absurd h.1 (by simp)) T0.out (by rfl) ?_ ?_
    rotate_left
    · intro W9 hSw
      obtain ⟨q0, q1, q2, q3, q4, q5, q6, q7, q8⟩ := S0.out W9 hSw
      go_simp
      try with_reducible rfl
    simp only [Act.put, List.setIfInBounds_toArray]
    try simp only [List.set_cons_zero, List.set_cons_succ]
    try simp only [List.getElem_toArray]
    repeat (first | simp only [List.getElem_cons_zero] | simp only [List.getElem_cons_succ])
    refine anyT_takeU (i := 10) (v := ?_) (by decide) rfl (by kernel_rfl) (by kernel_rfl) (by kernel_rfl) (fun _ _ _ h => absurd h.1 (by simp)) T0.out (by rfl) ?_ ?_
    rotate_left
    · intro W9 hSw
      obtain ⟨q0, q1, q2, q3, q4, q5, q6, q7, q8⟩ := S0.out W9 hSw
      go_simp
      try with_reducible rfl
    simp only [Act.put, List.setIfInBounds_toArray]
    try simp only [List.set_cons_zero, List.set_cons_succ]
    try simp only [List.getElem_toArray]
    repeat (first | simp only [List.getElem_cons_zero] | simp only [List.getElem_cons_succ])
    refine anyT_takeU (i := 11) (v := ?_) (by decide) rfl (by kernel_rfl) (by kernel_rfl) (by kernel_rfl) (fun _ _ _ h => absurd h.1 (by simp)) T0.out (by rfl) ?_ ?_
    rotate_left
    · intro W9 hSw
      obtain ⟨q0, q1, q2, q3, q4, q5, q6, q7, q8⟩ := S0.out W9 hSw
      go_simp
      try with_reducible rfl
    simp only [Act.put, List.setIfInBounds_toArray]
    try simp only [List.set_cons_zero, List.set_cons_succ]
    try simp only [List.getElem_toArray]
    repeat (first | simp only [List.getElem_cons_zero] | simp only [List.getElem_cons_succ])
    refine anyT_takeU (i := 12) (v := ?_) (by decide) rfl (by kernel_rfl) (by kernel_rfl) (by kernel_rfl) (fun _ _ _ h => absurd h.1 (by simp)) T0.out (by rfl) ?_ ?_
    rotate_left
    · intro W9 hSw
      obtain ⟨q0, q1, q2, q3, q4, q5, q6, q7, q8⟩ := S0.out W9 hSw
      go_simp
      try with_reducible rfl
    simp only [Act.put, List.setIfInBounds_toArray]
    try simp only [List.set_cons_zero, List.set_cons_succ]
    try simp only [List.getElem_toArray]
    repeat (first | simp only [List.getElem_cons_zero] | simp only [List.getElem_cons_succ])
    refine anyT_takeU (i := 13) (v := ?_) (by decide) rfl (by kernel_rfl) (by kernel_rfl) (by kernel_rfl) (fun _ _ _ h => absurd h.1 (by simp)) T0.out (by rfl) ?_ ?_
    rotate_left
    · intro W9 hSw
      obtain ⟨q0, q1, q2, q3, q4, q5, q6, q7, q8⟩ := S0.out W9 hSw
      go_simp
      try with_reducible rfl
    simp only [Act.put, List.setIfInBounds_toArray]
    try simp only [List.set_cons_zero, List.set_cons_succ]
    try simp only [List.getElem_toArray]
    repeat (first | simp only [List.getElem_cons_zero] | simp only [List.getElem_cons_succ])
    refine anyT_ready (rs := [14, 15]) (by kernel_rfl) (by simp) (AllT.cons rfl (by rfl) (fun K hK => ?_) (AllT.cons rfl (by rfl) (fun K hK => ?_) AllT.nil))
    · have T1 := Lib.hid (T0.out.alloc T0.out.size (.cells #[.int .i64 0, .int .i64 0, .int .i64 0] 32))
      unfold Oper.wp
      go_simp
      refine hK _ _ (fun _ => T1.out) ?_
      clear hK K
      refine anyT_one' (i := 15) (by kernel_rfl) rfl (by rfl) (fun K hK => ?_)
      unfold Oper.wp
      go_simp
      refine hK _ _ (fun _ => T1.out.alloc T1.out.size (.cells #[.int .i64 0, .int .i64 0, .int .i64 0] 32)) ?_
      clear hK K
      refine anyT_one' (i := 16) (by kernel_rfl) rfl (by rfl) (fun K hK => ?_)
      unfold Oper.wp
      go_simp
      have T2 := Lib.hid (T0.out.alloc T0.out.size (.cells #[.int .i64 xi, .int .i64 xb, .int .i64 xs] 32))
      refine hK _ _ (fun _ => T2.out.alloc T2.out.size (.cells #[.int .i64 0, .int .i64 0, .int .i64 0] 32)) ?_
      clear hK K
      refine anyT_one' (i := 17) (by kernel_rfl) rfl (by rfl) (fun K hK => ?_)
      unfold Oper.wp
      go_simp
      have T3 := Lib.hid (T0.out.alloc T0.out.size (.cells #[.int .i64 xi, .int .i64 xb, .int .i64 xs] 32))
      have T4 := Lib.hid (T3.out.alloc T3.out.size (.cells #[.int .i64 yi, .int .i64 yb, .int .i64 ys] 32))
      refine hK _ _ (fun _ => T4.out) ?_
      clear hK K
      refine anyT_done (by kernel_rfl) ?_ _
      exact ⟨rfl, (W0.heap.size, W0.heap.size + 1), rfl, ⟨T4.out, T0.out.size, Nat.le_succ_of_le T0.out.size, by show W0.heap.size ≠ W0.heap.size + 1; omega, (Below.heap_alloc (W0.alloc (.cells #[.int .i64 xi, .int .i64 xb, .int .i64 xs] 32)) (.cells #[.int .i64 yi, .int .i64 yb, .int .i64 ys] 32) _ (by rw [World.size_alloc]; omega)).trans (heap_new W0 _), (by have h := heap_new (W0.alloc (.cells #[.int .i64 xi, .int .i64 xb, .int .i64 xs] 32)) (.cells #[.int .i64 yi, .int .i64 yb, .int .i64 ys] 32); rw [World.size_alloc] at h; exact h)⟩⟩
    · have T1 := Lib.hid (T0.out.alloc T0.out.size (.cells #[.int .i64 0, .int .i64 0, .int .i64 0] 32))
      unfold Oper.wp
      go_simp
      refine hK _ _ (fun _ => T1.out) ?_
      clear hK K
      refine anyT_one' (i := 14) (by kernel_rfl) rfl (by rfl) (fun K hK => ?_)
      unfold Oper.wp
      go_simp
      refine hK _ _ (fun _ => T1.out.alloc T1.out.size (.cells #[.int .i64 0, .int .i64 0, .int .i64 0] 32)) ?_
      clear hK K
      refine anyT_one' (i := 16) (by kernel_rfl) rfl (by rfl) (fun K hK => ?_)
      unfold Oper.wp
      go_simp
      have T2 := Lib.hid (T0.out.alloc T0.out.size (.cells #[.int .i64 0, .int .i64 0, .int .i64 0] 32))
      refine hK _ _ (fun _ => T2.out.alloc T2.out.size (.cells #[.int .i64 xi, .int .i64 xb, .int .i64 xs] 32)) ?_
      clear hK K
      refine anyT_one' (i := 17) (by kernel_rfl) rfl (by rfl) (fun K hK => ?_)
      unfold Oper.wp
      go_simp
      have T3 := Lib.hid (T0.out.alloc T0.out.size (.cells #[.int .i64 yi, .int .i64 yb, .int .i64 ys] 32))
      have T4 := Lib.hid (T3.out.alloc T3.out.size (.cells #[.int .i64 xi, .int .i64 xb, .int .i64 xs] 32))
      refine hK _ _ (fun _ => T4.out) ?_
      clear hK K
      refine anyT_done (by kernel_rfl) ?_ _
      exact ⟨rfl, (W0.heap.size + 1, W0.heap.size), rfl, ⟨T4.out, Nat.le_succ_of_le T0.out.size, T0.out.size, by show W0.heap.size + 1 ≠ W0.heap.size; omega, (by have h := heap_new (W0.alloc (.cells #[.int .i64 yi, .int .i64 yb, .int .i64 ys] 32)) (.cells #[.int .i64 xi, .int .i64 xb, .int .i64 xs] 32); rw [World.size_alloc] at h; exact h), (Below.heap_alloc (W0.alloc (.cells #[.int .i64 yi, .int .i64 yb, .int .i64 ys] 32)) (.cells #[.int .i64 xi, .int .i64 xb, .int .i64 xs] 32) _ (by rw [World.size_alloc]; omega)).trans (heap_new W0 _)⟩⟩
  rintro ⟨bx, bY⟩ W1 hG
  have HG := Lib.hid hG
  clear hG
  simp only [Act.put, List.setIfInBounds_toArray]
  try simp only [List.set_cons_zero, List.set_cons_succ]
  try simp only [List.getElem_toArray]
  repeat (first | simp only [List.getElem_cons_zero] | simp only [List.getElem_cons_succ])
  go_wp2_with fail
  have R1 : Hid (W1.drew.ownsRow B 32 3 (.slice (some ⟨g, 0, none⟩) L.length ic) L.length (L.flatMap itC)) := Lib.hid (own_keep' HROW.out (HG.out.b.block g hgl))
  have hbx : bx ≠ g := fun e => (by have := HG.out.l1; simp only at this; omega)
  have hby : bY ≠ g := fun e => (by have := HG.out.l2; simp only at this; omega)
  have X1 : Hid (W1.drew.heap[bx]? = some (.cells #[.int .i64 xi, .int .i64 xb, .int .i64 xs] 32 (0, 0))) := Lib.hid HG.out.x
  have Y1 : Hid (W1.drew.heap[bY]? = some (.cells #[.int .i64 yi, .int .i64 yb, .int .i64 ys] 32 (0, 0))) := Lib.hid HG.out.y
  have Z1 : Hid (W1.drew.heap[hb]? = some (.cells #[.int .i64 s, .slice (some ⟨g, 0, none⟩) L.length ic, .map (some pb)] 82 (0, 0))) := Lib.hid ((HG.out.b.block hb hbl).trans hbox)
  have D1 : Hid (Below w.heap.size w W1.drew) := Lib.hid (below_draws HG.out.b 1)
  have SM := Lib.hid (fun (W : World) (hz : W.heap[hb]? = some (.cells #[.int .i64 s, .slice (some ⟨g, 0, none⟩) L.length ic, .map (some pb)] 82 (0, 0))) (hx : W.heap[bx]? = some (.cells #[.int .i64 xi, .int .i64 xb, .int .i64 xs] 32 (0, 0))) (hy : W.heap[bY]? = some (.cells #[.int .i64 yi, .int .i64 yb, .int .i64 ys] 32 (0, 0))) (hg : g < W.heap.size) => show W.cell? ⟨hb, 1, none⟩ = some (.slice (some ⟨g, 0, none⟩) L.length ic) ∧ W.cell? ⟨hb, 2, none⟩ = some (.map (some pb)) ∧ W.cell? ⟨bx, 0, none⟩ = some (.int .i64 xi) ∧ W.cell? ⟨bx, 1, none⟩ = some (.int .i64 xb) ∧ W.cell? ⟨bx, 2, none⟩ = some (.int .i64 xs) ∧ W.cell? ⟨bY, 0, none⟩ = some (.int .i64 yi) ∧ W.cell? ⟨bY, 1, none⟩ = some (.int .i64 yb) ∧ W.cell? ⟨bY, 2, none⟩ = some (.int .i64 ys) ∧ hb < W.heap.size ∧ g < W.heap.size from ⟨cell_blk (i := 1) hz rfl, cell_blk (i := 2) hz rfl, cell_blk (i := 0) hx rfl, cell_blk (i := 1) hx rfl, cell_blk (i := 2) hx rfl, cell_blk (i := 0) hy rfl, cell_blk (i := 1) hy rfl, cell_blk (i := 2) hy rfl, blk_lt hz, hg⟩)
  have hg1 : g < W1.drew.heap.size := Nat.lt_of_lt_of_le hgl D1.out.size
  have S := Lib.hid (SM.out _ Z1.out X1.out Y1.out hg1)
  have SI := Lib.hid (fun (W : World) (h : W.cell? ⟨hb, 1, none⟩ = some (.slice (some ⟨g, 0, none⟩) L.length ic) ∧ W.cell? ⟨hb, 2, none⟩ = some (.map (some pb)) ∧ W.cell? ⟨bx, 0, none⟩ = some (.int .i64 xi) ∧ W.cell? ⟨bx, 1, none⟩ = some (.int .i64 xb) ∧ W.cell? ⟨bx, 2, none⟩ = some (.int .i64 xs) ∧ W.cell? ⟨bY, 0, none⟩ = some (.int .i64 yi) ∧ W.cell? ⟨bY, 1, none⟩ = some (.int .i64 yb) ∧ W.cell? ⟨bY, 2, none⟩ = some (.int .i64 ys) ∧ hb < W.heap.size ∧ g < W.heap.size) => h)
  refine wp_region_T (S := fun W => W.cell? ⟨hb, 1, none⟩ = some (.slice (some ⟨g, 0, none⟩) L.length ic) ∧ W.cell? ⟨hb, 2, none⟩ = some (.map (some pb)) ∧ W.cell? ⟨bx, 0, none⟩ = some (.int .i64 xi) ∧ W.cell? ⟨bx, 1, none⟩ = some (.int .i64 xb) ∧ W.cell? ⟨bx, 2, none⟩ = some (.int .i64 xs) ∧ W.cell? ⟨bY, 0, none⟩ = some (.int .i64 yi) ∧ W.cell? ⟨bY, 1, none⟩ = some (.int .i64 yb) ∧ W.cell? ⟨bY, 2, none⟩ = some (.int .i64 ys) ∧ hb < W.heap.size ∧ g < W.heap.size) (z := 16) (by kernel_rfl) ?_
  generalize W1.drew = W2 at *
  clear S0
  refine anyT_takeU (i := 0) (v := ?_) (by decide) rfl (by kernel_rfl) (by kernel_rfl) (by kernel_rfl) (fun _ _ _ h => h) S.out (by rfl) ?_ ?_
  rotate_left
  · intro W9 hSw
    obtain ⟨q0, q1, q2, q3, q4, q5, q6, q7, q8, q9⟩ := SI.out W9 hSw
    go_simp
    try with_reducible rfl
  simp only [Act.put, List.setIfInBounds_toArray]
  try simp only [List.set_cons_zero, List.set_cons_succ]
  try simp only [List.getElem_toArray]
  repeat (first | simp only [List.getElem_cons_zero] | simp only [List.getElem_cons_succ])
  refine anyT_takeU (i := 1) (v := ?_) (by decide) rfl (by kernel_rfl) (by kernel_rfl) (by kernel_rfl) (fun _ _ _ h => h) S.out (by rfl) ?_ ?_
  rotate_left
  · intro W9 hSw
    obtain ⟨q0, q1, q2, q3, q4, q5, q6, q7, q8, q9⟩ := SI.out W9 hSw
    go_simp
    try with_reducible rfl
  simp only [Act.put, List.setIfInBounds_toArray]
  try simp only [List.set_cons_zero, List.set_cons_succ]
  try simp only [List.getElem_toArray]
  repeat (first | simp only [List.getElem_cons_zero] | simp only [List.getElem_cons_succ])
  refine anyT_takeU (i := 2) (v := ?_) (by decide) rfl (by kernel_rfl) (by kernel_rfl) (by kernel_rfl) (fun _ _ _ h => h) S.out (by rfl) ?_ ?_
  rotate_left
  · intro W9 hSw
    obtain ⟨q0, q1, q2, q3, q4, q5, q6, q7, q8, q9⟩ := SI.out W9 hSw
    go_simp
    try with_reducible rfl
  simp only [Act.put, List.setIfInBounds_toArray]
  try simp only [List.set_cons_zero, List.set_cons_succ]
  try simp only [List.getElem_toArray]
  repeat (first | simp only [List.getElem_cons_zero] | simp only [List.getElem_cons_succ])
  refine anyT_takeU (i := 3) (v := ?_) (by decide) rfl (by kernel_rfl) (by kernel_rfl) (by kernel_rfl) (fun _ _ _ h => h) S.out (by rfl) ?_ ?_
  rotate_left
  · intro W9 hSw
    obtain ⟨q0, q1, q2, q3, q4, q5, q6, q7, q8, q9⟩ := SI.out W9 hSw
    go_simp
    try with_reducible rfl
  simp only [Act.put, List.setIfInBounds_toArray]
  try simp only [List.set_cons_zero, List.set_cons_succ]
  try simp only [List.getElem_toArray]
  repeat (first | simp only [List.getElem_cons_zero] | simp only [List.getElem_cons_succ])
  refine anyT_takeU (i := 4) (v := ?_) (by decide) rfl (by kernel_rfl) (by kernel_rfl) (by kernel_rfl) (fun _ _ _ h => h) S.out (by rfl) ?_ ?_
  rotate_left
  · intro W9 hSw
    obtain ⟨q0, q1, q2, q3, q4, q5, q6, q7, q8, q9⟩ := SI.out W9 hSw
    go_simp
    try with_reducible rfl
  simp only [Act.put, List.setIfInBounds_toArray]
  try simp only [List.set_cons_zero, List.set_cons_succ]
  try simp only [List.getElem_toArray]
  repeat (first | simp only [List.getElem_cons_zero] | simp only [List.getElem_cons_succ])
  refine anyT_takeU (i := 5) (v := ?_) (by decide) rfl (by kernel_rfl) (by kernel_rfl) (by kernel_rfl) (fun _ _ _ h => h) S.out (by rfl) ?_ ?_
  rotate_left
  · intro W9 hSw
    obtain ⟨q0, q1, q2, q3, q4, q5, q6, q7, q8, q9⟩ := SI.out W9 hSw
    go_simp
    try with_reducible rfl
  simp only [Act.put, List.setIfInBounds_toArray]
  try simp only [List.set_cons_zero, List.set_cons_succ]
  try simp only [List.getElem_toArray]
  repeat (first | simp only [List.getElem_cons_zero] | simp only [List.getElem_cons_succ])
  refine anyT_takeU (i := 6) (v := ?_) (by decide) rfl (by kernel_rfl) (by kernel_rfl) (by kernel_rfl) (fun _ _ _ h => h) S.out (by rfl) ?_ ?_
  rotate_left
  · intro W9 hSw
    obtain ⟨q0, q1, q2, q3, q4, q5, q6, q7, q8, q9⟩ := SI.out W9 hSw
    go_simp
    try with_reducible rfl
  simp only [Act.put, List.setIfInBounds_toArray]
  try simp only [List.set_cons_zero, List.set_cons_succ]
  try simp only [List.getElem_toArray]
  repeat (first | simp only [List.getElem_cons_zero] | simp only [List.getElem_cons_succ])
  refine anyT_takeU (i := 7) (v := ?_) (by decide) rfl (by kernel_rfl) (by kernel_rfl) (by kernel_rfl) (fun _ _ _ h => h) S.out (by rfl) ?_ ?_
  rotate_left
  · intro W9 hSw
    obtain ⟨q0, q1, q2, q3, q4, q5, q6, q7, q8, q9⟩ := SI.out W9 hSw
    go_simp
    try with_reducible rfl
  simp only [Act.put, List.setIfInBounds_toArray]
  try simp only [List.set_cons_zero, List.set_cons_succ]
  try simp only [List.getElem_toArray]
  repeat (first | simp only [List.getElem_cons_zero] | simp only [List.getElem_cons_succ])
  refine anyT_takeU (i := 8) (v := ?_) (by decide) rfl (by kernel_rfl) (by kernel_rfl) (by kernel_rfl) (fun _ _ _ h => h) S.out (by rfl) ?_ ?_
  rotate_left
  · intro W9 hSw
    obtain ⟨q0, q1, q2, q3, q4, q5, q6, q7, q8, q9⟩ := SI.out W9 hSw
    go_simp
    try with_reducible rfl
  simp only [Act.put, List.setIfInBounds_toArray]
  try simp only [List.set_cons_zero, List.set_cons_succ]
  try simp only [List.getElem_toArray]
  repeat (first | simp only [List.getElem_cons_zero] | simp only [List.getElem_cons_succ])
  refine anyT_takeU (i := 9) (v := ?_) (by decide) rfl (by kernel_rfl) (by kernel_rfl) (by kernel_rfl) (fun _ _ _ h => h) S.out (by rfl) ?_ ?_
  rotate_left
  · intro W9 hSw
    obtain ⟨q0, q1, q2, q3, q4, q5, q6, q7, q8, q9⟩ := SI.out W9 hSw
    go_simp
    try with_reducible rfl
  simp only [Act.put, List.setIfInBounds_toArray]
  try simp only [List.set_cons_zero, List.set_cons_succ]
  try simp only [List.getElem_toArray]
  repeat (first | simp only [List.getElem_cons_zero] | simp only [List.getElem_cons_succ])
  refine anyT_takeU (i := 10) (v := ?_) (by decide) rfl (by kernel_rfl) (by kernel_rfl) (by kernel_rfl) (fun _ _ _ h => h) S.out (by rfl) ?_ ?_
  rotate_left
  · intro W9 hSw
    obtain ⟨q0, q1, q2, q3, q4, q5, q6, q7, q8, q9⟩ := SI.out W9 hSw
    go_simp
    try with_reducible rfl
  simp only [Act.put, List.setIfInBounds_toArray]
  try simp only [List.set_cons_zero, List.set_cons_succ]
  try simp only [List.getElem_toArray]
  repeat (first | simp only [List.getElem_cons_zero] | simp only [List.getElem_cons_succ])
  refine anyT_takeU (i := 11) (v := ?_) (by decide) rfl (by kernel_rfl) (by kernel_rfl) (by kernel_rfl) (fun _ _ _ h => h) S.out (by rfl) ?_ ?_
  rotate_left
  · intro W9 hSw
    obtain ⟨q0, q1, q2, q3, q4, q5, q6, q7, q8, q9⟩ := SI.out W9 hSw
    go_simp
    try with_reducible rfl
  simp only [Act.put, List.setIfInBounds_toArray]
  try simp only [List.set_cons_zero, List.set_cons_succ]
  try simp only [List.getElem_toArray]
  repeat (first | simp only [List.getElem_cons_zero] | simp only [List.getElem_cons_succ])
  refine anyT_takeU (i := 12) (v := ?_) (by decide) rfl (by kernel_rfl) (by kernel_rfl) (by kernel_rfl) (fun _ _ _ h => h) S.out (by rfl) ?_ ?_
  rotate_left
  · intro W9 hSw
    obtain ⟨q0, q1, q2, q3, q4, q5, q6, q7, q8, q9⟩ := SI.out W9 hSw
    go_simp
    try with_reducible rfl
  simp only [Act.put, List.setIfInBounds_toArray]
  try simp only [List.set_cons_zero, List.set_cons_succ]
  try simp only [List.getElem_toArray]
  repeat (first | simp only [List.getElem_cons_zero] | simp only [List.getElem_cons_succ])
  obtain ⟨⟨p0, p1, p2⟩, p3, p4, p5⟩ := row_at R1.out hi rfl
  have R2 : Hid ((put3 W2 g (i * 3) ⟨yi, yb, ys⟩).ownsRow B 32 3 (.slice (some ⟨g, 0, none⟩) L.length ic) L.length ((L.set i ⟨yi, yb, ys⟩).flatMap itC)) := Lib.hid (row_put R1.out hi ⟨yi, yb, ys⟩)
  have X2 : Hid ((put3 W2 g (i * 3) ⟨yi, yb, ys⟩).heap[bx]? = _) := Lib.hid ((put3_other hbx).trans X1.out)
  have Y2 : Hid ((put3 W2 g (i * 3) ⟨yi, yb, ys⟩).heap[bY]? = _) := Lib.hid ((put3_other hby).trans Y1.out)
  have Z2 : Hid ((put3 W2 g (i * 3) ⟨yi, yb, ys⟩).heap[hb]? = _) := Lib.hid ((put3_other (Ne.symm hgh)).trans Z1.out)
  have hg2 : g < (put3 W2 g (i * 3) ⟨yi, yb, ys⟩).heap.size := by rw [put3_size]; exact hg1
  have Sb := Lib.hid (SM.out _ Z2.out X2.out Y2.out hg2)
  obtain ⟨⟨r0, r1, r2⟩, r3, r4, r5⟩ := row_at R2.out (i := j) (by rw [List.length_set]; exact hj) (by rw [List.length_set])
  refine anyT_one' (i := 13) (by kernel_rfl) rfl (by rfl) (fun K hK => ?_)
  have HK := Lib.hid hK
  clear hK
  unfold Oper.wp
  go_simp
  refine HK.out _ _ (fun _ => Sb.out) ?_
  clear HK K
  refine anyT_takeU (i := 14) (v := ?_) (by decide) rfl (by kernel_rfl) (by kernel_rfl) (by kernel_rfl) (fun _ _ _ h => h) Sb.out (by rfl) ?_ ?_
  rotate_left
  · intro W9 hSw
    obtain ⟨q0, q1, q2, q3, q4, q5, q6, q7, q8, q9⟩ := SI.out W9 hSw
    go_simp
    try with_reducible rfl
  simp only [Act.put, List.setIfInBounds_toArray]
  try simp only [List.set_cons_zero, List.set_cons_succ]
  try simp only [List.getElem_toArray]
  repeat (first | simp only [List.getElem_cons_zero] | simp only [List.getElem_cons_succ])
  have R3 : Hid ((put3 (put3 W2 g (i * 3) ⟨yi, yb, ys⟩) g (j * 3) ⟨xi, xb, xs⟩).ownsRow B 32 3 (.slice (some ⟨g, 0, none⟩) L.length ic) L.length (((L.set i ⟨yi, yb, ys⟩).set j ⟨xi, xb, xs⟩).flatMap itC)) := Lib.hid (row_put R2.out (by rw [List.length_set]; exact hj) ⟨xi, xb, xs⟩)
  have X3 : Hid ((put3 (put3 W2 g (i * 3) ⟨yi, yb, ys⟩) g (j * 3) ⟨xi, xb, xs⟩).heap[bx]? = _) := Lib.hid ((put3_other hbx).trans X2.out)
  have Y3 : Hid ((put3 (put3 W2 g (i * 3) ⟨yi, yb, ys⟩) g (j * 3) ⟨xi, xb, xs⟩).heap[bY]? = _) := Lib.hid ((put3_other hby).trans Y2.out)
  have Z3 : Hid ((put3 (put3 W2 g (i * 3) ⟨yi, yb, ys⟩) g (j * 3) ⟨xi, xb, xs⟩).heap[hb]? = _) := Lib.hid ((put3_other (Ne.symm hgh)).trans Z2.out)
  have hg3 : g < (put3 (put3 W2 g (i * 3) ⟨yi, yb, ys⟩) g (j * 3) ⟨xi, xb, xs⟩).heap.size := by rw [put3_size]; exact hg2
  have Sc := Lib.hid (SM.out _ Z3.out X3.out Y3.out hg3)
  refine anyT_one' (i := 15) (by kernel_rfl) rfl (by rfl) (fun K hK => ?_)
  have HK := Lib.hid hK
  clear hK
  unfold Oper.wp
  go_simp
  refine HK.out _ _ (fun _ => Sc.out) ?_
  clear HK K
  refine anyT_done (by kernel_rfl) ?_ _
  have DW : Hid (Kept w0 (put3 (put3 W2 g (i * 3) ⟨yi, yb, ys⟩) g (j * 3) ⟨xi, xb, xs⟩)) := Lib.hid (((HH.out.b.call D1.out).put3 (HH.out.li g 0 rfl) _ _).put3 (HH.out.li g 0 rfl) _ _)
  obtain ⟨f, hMI, hPL⟩ := HH.out.h.map
  have hpl := hMI.lt
  have M3 : Hid (MI (put3 (put3 W2 g (i * 3) ⟨yi, yb, ys⟩) g (j * 3) ⟨xi, xb, xs⟩) pb f L.length) := Lib.hid (hMI.block ((put3_other (Ne.symm hgp)).trans ((put3_other (Ne.symm hgp)).trans (D1.out.block pb hpl))))
  have HPL := Lib.hid hPL
  clear hMI hPL R1 R2 X1 Y1 Z1 X2 Y2 Z2 Sb S Sc D1 p0 p1 p2 p3 p4 p5 r0 r1 r2 r3 r4 r5 hg1 hg2
  change Exit.then _ _ _ _ (put3 (put3 W2 g (i * 3) ⟨yi, yb, ys⟩) g (j * 3) ⟨xi, xb, xs⟩)
  generalize put3 (put3 W2 g (i * 3) ⟨yi, yb, ys⟩) g (j * 3) ⟨xi, xb, xs⟩ = W3 at *
  go_wp2_with fail
  have R3 : Hid (W3.drew.ownsRow B 32 3 (.slice (some ⟨g, 0, none⟩) L.length ic) L.length (((L.set i ⟨yi, yb, ys⟩).set j ⟨xi, xb, xs⟩).flatMap itC)) := Lib.hid R3.out.drew
  have X3 : Hid (W3.drew.heap[bx]? = some (.cells #[.int .i64 xi, .int .i64 xb, .int .i64 xs] 32 (0, 0))) := Lib.hid X3.out
  have Y3 : Hid (W3.drew.heap[bY]? = some (.cells #[.int .i64 yi, .int .i64 yb, .int .i64 ys] 32 (0, 0))) := Lib.hid Y3.out
  have Z3 : Hid (W3.drew.heap[hb]? = some (.cells #[.int .i64 s, .slice (some ⟨g, 0, none⟩) L.length ic, .map (some pb)] 82 (0, 0))) := Lib.hid Z3.out
  have DW : Hid (Kept w0 W3.drew) := Lib.hid DW.out.drew
  have M3 : Hid (MI W3.drew pb f L.length) := Lib.hid (M3.out.block rfl)
  have hg3 : g < W3.drew.heap.size := hg3
  have S := Lib.hid (SM.out _ Z3.out X3.out Y3.out hg3)
  have hph : pb ≠ hb := fun e => (by
    obtain ⟨D, ⟨es, c, hm, _⟩, _⟩ := M3.out
    have h7 := Z3.out
    rw [← e, hm] at h7; cases h7)
  have hpx : pb ≠ bx := fun e => (by
    obtain ⟨D, ⟨es, c, hm, _⟩, _⟩ := M3.out
    have h7 := X3.out
    rw [← e, hm] at h7; cases h7)
  have hpy : pb ≠ bY := fun e => (by
    obtain ⟨D, ⟨es, c, hm, _⟩, _⟩ := M3.out
    have h7 := Y3.out
    rw [← e, hm] at h7; cases h7)
  refine wp_region_T (S := fun W => W.cell? ⟨hb, 1, none⟩ = some (.slice (some ⟨g, 0, none⟩) L.length ic) ∧ W.cell? ⟨hb, 2, none⟩ = some (.map (some pb)) ∧ W.cell? ⟨bx, 0, none⟩ = some (.int .i64 xi) ∧ W.cell? ⟨bx, 1, none⟩ = some (.int .i64 xb) ∧ W.cell? ⟨bx, 2, none⟩ = some (.int .i64 xs) ∧ W.cell? ⟨bY, 0, none⟩ = some (.int .i64 yi) ∧ W.cell? ⟨bY, 1, none⟩ = some (.int .i64 yb) ∧ W.cell? ⟨bY, 2, none⟩ = some (.int .i64 ys) ∧ hb < W.heap.size ∧ g < W.heap.size) (z := 20) (by kernel_rfl) ?_
  generalize W3.drew = W4 at *
  have TS := Lib.hid (fun (W W' : World) (ht : W.mapTurned W' pb) (hz : W.heap[hb]? = some (.cells #[.int .i64 s, .slice (some ⟨g, 0, none⟩) L.length ic, .map (some pb)] 82 (0, 0))) (hx : W.heap[bx]? = some (.cells #[.int .i64 xi, .int .i64 xb, .int .i64 xs] 32 (0, 0))) (hy : W.heap[bY]? = some (.cells #[.int .i64 yi, .int .i64 yb, .int .i64 ys] 32 (0, 0))) => And.intro ((turned_other ht (Ne.symm hph)).trans hz) (And.intro ((turned_other ht (Ne.symm hpx)).trans hx) ((turned_other ht (Ne.symm hpy)).trans hy)))
  refine anyT_takeU (i := 0) (v := ?_) (by decide) rfl (by kernel_rfl) (by kernel_rfl) (by kernel_rfl) (fun _ _ _ h => h) S.out (by rfl) ?_ ?_
  rotate_left
  · intro W9 hSw
    obtain ⟨q0, q1, q2, q3, q4, q5, q6, q7, q8, q9⟩ := SI.out W9 hSw
    go_simp
    try with_reducible rfl
  simp only [Act.put, List.setIfInBounds_toArray]
  try simp only [List.set_cons_zero, List.set_cons_succ]
  try simp only [List.getElem_toArray]
  repeat (first | simp only [List.getElem_cons_zero] | simp only [List.getElem_cons_succ])
  refine anyT_takeU (i := 1) (v := ?_) (by decide) rfl (by kernel_rfl) (by kernel_rfl) (by kernel_rfl) (fun _ _ _ h => h) S.out (by rfl) ?_ ?_
  rotate_left
  · intro W9 hSw
    obtain ⟨q0, q1, q2, q3, q4, q5, q6, q7, q8, q9⟩ := SI.out W9 hSw
    go_simp
    try with_reducible rfl
  simp only [Act.put, List.setIfInBounds_toArray]
  try simp only [List.set_cons_zero, List.set_cons_succ]
  try simp only [List.getElem_toArray]
  repeat (first | simp only [List.getElem_cons_zero] | simp only [List.getElem_cons_succ])
  refine anyT_takeU (i := 2) (v := ?_) (by decide) rfl (by kernel_rfl) (by kernel_rfl) (by kernel_rfl) (fun _ _ _ h => h) S.out (by rfl) ?_ ?_
  rotate_left
  · intro W9 hSw
    obtain ⟨q0, q1, q2, q3, q4, q5, q6, q7, q8, q9⟩ := SI.out W9 hSw
    go_simp
    try with_reducible rfl
  simp only [Act.put, List.setIfInBounds_toArray]
  try simp only [List.set_cons_zero, List.set_cons_succ]
  try simp only [List.getElem_toArray]
  repeat (first | simp only [List.getElem_cons_zero] | simp only [List.getElem_cons_succ])
  refine anyT_takeU (i := 3) (v := ?_) (by decide) rfl (by kernel_rfl) (by kernel_rfl) (by kernel_rfl) (fun _ _ _ h => h) S.out (by rfl) ?_ ?_
  rotate_left
  · intro W9 hSw
    obtain ⟨q0, q1, q2, q3, q4, q5, q6, q7, q8, q9⟩ := SI.out W9 hSw
    go_simp
    try with_reducible rfl
  simp only [Act.put, List.setIfInBounds_toArray]
  try simp only [List.set_cons_zero, List.set_cons_succ]
  try simp only [List.getElem_toArray]
  repeat (first | simp only [List.getElem_cons_zero] | simp only [List.getElem_cons_succ])
  refine anyT_takeU (i := 4) (v := ?_) (by decide) rfl (by kernel_rfl) (by kernel_rfl) (by kernel_rfl) (fun _ _ _ h => h) S.out (by rfl) ?_ ?_
  rotate_left
  · intro W9 hSw
    obtain ⟨q0, q1, q2, q3, q4, q5, q6, q7, q8, q9⟩ := SI.out W9 hSw
    go_simp
    try with_reducible rfl
  simp only [Act.put, List.setIfInBounds_toArray]
  try simp only [List.set_cons_zero, List.set_cons_succ]
  try simp only [List.getElem_toArray]
  repeat (first | simp only [List.getElem_cons_zero] | simp only [List.getElem_cons_succ])
  refine anyT_takeU (i := 5) (v := ?_) (by decide) rfl (by kernel_rfl) (by kernel_rfl) (by kernel_rfl) (fun _ _ _ h => h) S.out (by rfl) ?_ ?_
  rotate_left
  · intro W9 hSw
    obtain ⟨q0, q1, q2, q3, q4, q5, q6, q7, q8, q9⟩ := SI.out W9 hSw
    go_simp
    try with_reducible rfl
  simp only [Act.put, List.setIfInBounds_toArray]
  try simp only [List.set_cons_zero, List.set_cons_succ]
  try simp only [List.getElem_toArray]
  repeat (first | simp only [List.getElem_cons_zero] | simp only [List.getElem_cons_succ])
  refine anyT_takeU (i := 6) (v := ?_) (by decide) rfl (by kernel_rfl) (by kernel_rfl) (by kernel_rfl) (fun _ _ _ h => h) S.out (by rfl) ?_ ?_
  rotate_left
  · intro W9 hSw
    obtain ⟨q0, q1, q2, q3, q4, q5, q6, q7, q8, q9⟩ := SI.out W9 hSw
    go_simp
    try with_reducible rfl
  simp only [Act.put, List.setIfInBounds_toArray]
  try simp only [List.set_cons_zero, List.set_cons_succ]
  try simp only [List.getElem_toArray]
  repeat (first | simp only [List.getElem_cons_zero] | simp only [List.getElem_cons_succ])
  refine anyT_takeU (i := 7) (v := ?_) (by decide) rfl (by kernel_rfl) (by kernel_rfl) (by kernel_rfl) (fun _ _ _ h => h) S.out (by rfl) ?_ ?_
  rotate_left
  · intro W9 hSw
    obtain ⟨q0, q1, q2, q3, q4, q5, q6, q7, q8, q9⟩ := SI.out W9 hSw
    go_simp
    try with_reducible rfl
  simp only [Act.put, List.setIfInBounds_toArray]
  try simp only [List.set_cons_zero, List.set_cons_succ]
  try simp only [List.getElem_toArray]
  repeat (first | simp only [List.getElem_cons_zero] | simp only [List.getElem_cons_succ])
  refine anyT_takeU (i := 8) (v := ?_) (by decide) rfl (by kernel_rfl) (by kernel_rfl) (by kernel_rfl) (fun _ _ _ h => h) S.out (by rfl) ?_ ?_
  rotate_left
  · intro W9 hSw
    obtain ⟨q0, q1, q2, q3, q4, q5, q6, q7, q8, q9⟩ := SI.out W9 hSw
    go_simp
    try with_reducible rfl
  simp only [Act.put, List.setIfInBounds_toArray]
  try simp only [List.set_cons_zero, List.set_cons_succ]
  try simp only [List.getElem_toArray]
  repeat (first | simp only [List.getElem_cons_zero] | simp only [List.getElem_cons_succ])
  refine anyT_takeU (i := 9) (v := ?_) (by decide) rfl (by kernel_rfl) (by kernel_rfl) (by kernel_rfl) (fun _ _ _ h => h) S.out (by rfl) ?_ ?_
  rotate_left
  · intro W9 hSw
    obtain ⟨q0, q1, q2, q3, q4, q5, q6, q7, q8, q9⟩ := SI.out W9 hSw
    go_simp
    try with_reducible rfl
  simp only [Act.put, List.setIfInBounds_toArray]
  try simp only [List.set_cons_zero, List.set_cons_succ]
  try simp only [List.getElem_toArray]
  repeat (first | simp only [List.getElem_cons_zero] | simp only [List.getElem_cons_succ])
  refine anyT_takeU (i := 10) (v := ?_) (by decide) rfl (by kernel_rfl) (by kernel_rfl) (by kernel_rfl) (fun _ _ _ h => h) S.out (by rfl) ?_ ?_
  rotate_left
  · intro W9 hSw
    obtain ⟨q0, q1, q2, q3, q4, q5, q6, q7, q8, q9⟩ := SI.out W9 hSw
    go_simp
    try with_reducible rfl
  simp only [Act.put, List.setIfInBounds_toArray]
  try simp only [List.set_cons_zero, List.set_cons_succ]
  try simp only [List.getElem_toArray]
  repeat (first | simp only [List.getElem_cons_zero] | simp only [List.getElem_cons_succ])
  refine anyT_takeU (i := 11) (v := ?_) (by decide) rfl (by kernel_rfl) (by kernel_rfl) (by kernel_rfl) (fun _ _ _ h => h) S.out (by rfl) ?_ ?_
  rotate_left
  · intro W9 hSw
    obtain ⟨q0, q1, q2, q3, q4, q5, q6, q7, q8, q9⟩ := SI.out W9 hSw
    go_simp
    try with_reducible rfl
  simp only [Act.put, List.setIfInBounds_toArray]
  try simp only [List.set_cons_zero, List.set_cons_succ]
  try simp only [List.getElem_toArray]
  repeat (first | simp only [List.getElem_cons_zero] | simp only [List.getElem_cons_succ])
  refine anyT_takeU (i := 12) (v := ?_) (by decide) rfl (by kernel_rfl) (by kernel_rfl) (by kernel_rfl) (fun _ _ _ h => h) S.out (by rfl) ?_ ?_
  rotate_left
  · intro W9 hSw
    obtain ⟨q0, q1, q2, q3, q4, q5, q6, q7, q8, q9⟩ := SI.out W9 hSw
    go_simp
    try with_reducible rfl
  simp only [Act.put, List.setIfInBounds_toArray]
  try simp only [List.set_cons_zero, List.set_cons_succ]
  try simp only [List.getElem_toArray]
  repeat (first | simp only [List.getElem_cons_zero] | simp only [List.getElem_cons_succ])
  refine anyT_takeU (i := 13) (v := ?_) (by decide) rfl (by kernel_rfl) (by kernel_rfl) (by kernel_rfl) (fun _ _ _ h => h) S.out (by rfl) ?_ ?_
  rotate_left
  · intro W9 hSw
    obtain ⟨q0, q1, q2, q3, q4, q5, q6, q7, q8, q9⟩ := SI.out W9 hSw
    go_simp
    try with_reducible rfl
  simp only [Act.put, List.setIfInBounds_toArray]
  try simp only [List.set_cons_zero, List.set_cons_succ]
  try simp only [List.getElem_toArray]
  repeat (first | simp only [List.getElem_cons_zero] | simp only [List.getElem_cons_succ])
  have hfy : (f yi).isSome = true := by
    have h1 := HPL.out.at_ j hj
    rw [← HYE.out] at h1
    simp only at h1
    rw [h1]; rfl
  have hfx : (putF f yi i xi).isSome = true := by
    unfold putF
    split
    · rfl
    · have h1 := HPL.out.at_ i hi
      rw [← HXE.out] at h1
      simp only at h1
      rw [h1]; rfl
  have hLf := HH.out.h.few
  obtain ⟨v1, st1, W5, run1, tu1, nx1⟩ := M3.out.entry (i := yi) HOY.out.id (p := i) (by omega) (by omega)
  obtain ⟨W6, run2, M6, tu2⟩ := nx1 W5 rfl
  rw [if_pos hfy] at M6
  obtain ⟨v2, st2, W7, run3, tu3, nx2⟩ := M6.entry (i := xi) HOX.out.id (p := j) (by omega) (by omega)
  obtain ⟨W8, run4, M8, tu4⟩ := nx2 W7 rfl
  rw [if_pos hfx] at M8
  clear nx1 nx2
  have run1 : (Instr.mapEntry 80 (.map (some pb)) (.int .i64 yi)).run Try.prog W4 = .ok (.tuple #[v1, .int .i64 (st1 : Int)]) W5 := run1
  have run2 : (Instr.entryStore 80 (.map (some pb)) (.int .i64 (st1 : Int)) (.int .i64 (i : Int))).run Try.prog W5 = .ok () W6 := run2
  have run3 : (Instr.mapEntry 80 (.map (some pb)) (.int .i64 xi)).run Try.prog W6 = .ok (.tuple #[v2, .int .i64 (st2 : Int)]) W7 := run3
  have run4 : (Instr.entryStore 80 (.map (some pb)) (.int .i64 (st2 : Int)) (.int .i64 (j : Int))).run Try.prog W7 = .ok () W8 := run4
  obtain ⟨z5, x5, y5⟩ := TS.out _ _ tu1 Z3.out X3.out Y3.out
  obtain ⟨z6, x6, y6⟩ := TS.out _ _ tu2 z5 x5 y5
  obtain ⟨z7, x7, y7⟩ := TS.out _ _ tu3 z6 x6 y6
  obtain ⟨z8, x8, y8⟩ := TS.out _ _ tu4 z7 x7 y7
  have g5 : g < W5.heap.size := by rw [turned_size tu1]; exact hg3
  have g6 : g < W6.heap.size := by rw [turned_size tu2]; exact g5
  have g7 : g < W7.heap.size := by rw [turned_size tu3]; exact g6
  have g8 : g < W8.heap.size := by rw [turned_size tu4]; exact g7
  have S5 := Lib.hid (SM.out _ z5 x5 y5 g5)
  have S6 := Lib.hid (SM.out _ z6 x6 y6 g6)
  have S7 := Lib.hid (SM.out _ z7 x7 y7 g7)
  have S8 := Lib.hid (SM.out _ z8 x8 y8 g8)
  have RG : Hid (W8.heap[g]? = W4.heap[g]?) := Lib.hid ((turned_other tu4 hgp).trans ((turned_other tu3 hgp).trans ((turned_other tu2 hgp).trans (turned_other tu1 hgp))))
  have hlp := HH.out.lp
  have DZ : Hid (Kept w0 W8) := Lib.hid ((((DW.out.turned tu1 hlp).turned tu2 hlp).turned tu3 hlp).turned tu4 hlp)
  have FIN : Hid (HW w0 W8 hb ⟨some ⟨g, 0, none⟩, ic, pb⟩ s (sw L i j)) := Lib.hid (by
    have hsw : sw L i j = (L.set i ⟨yi, yb, ys⟩).set j ⟨xi, xb, xs⟩ := by unfold sw; rw [← HXE.out, ← HYE.out]
    have hp := HPL.out.sw hi hj
    rw [← HXE.out, ← HYE.out] at hp
    refine ⟨DZ.out, ⟨?_, ⟨B, ?_⟩, ⟨_, ?_, hp⟩, fun x hx => HH.out.h.ok x (sw_mem hi hj hx), ?_, HH.out.h.step⟩, HH.out.lb, HH.out.lp, HH.out.li⟩
    · rw [sw_len]; exact z8
    · rw [sw_len, hsw]; exact own_keep' R3.out RG.out
    · rw [sw_len]; exact M8
    · rw [sw_len]; exact HH.out.h.few)
  clear tu1 tu2 tu3 tu4 z5 x5 y5 z6 x6 y6 z7 x7 y7 z8 x8 y8 M6 M8 DZ RG hfx hfy
  refine anyT_one' (i := 14) (by kernel_rfl) rfl (by rfl) (fun K hK => ?_)
  have HK := Lib.hid hK
  clear hK
  unfold Oper.wp
  go_simp
  refine HK.out _ _ (fun _ => S5.out) ?_
  clear HK K
  refine anyT_one' (i := 15) (by kernel_rfl) rfl (by rfl) (fun K hK => ?_)
  have HK := Lib.hid hK
  clear hK
  unfold Oper.wp
  go_simp
  refine HK.out _ _ (fun _ => S5.out) ?_
  clear HK K
  refine anyT_one' (i := 16) (by kernel_rfl) rfl (by rfl) (fun K hK => ?_)
  have HK := Lib.hid hK
  clear hK
  unfold Oper.wp
  go_simp
  refine HK.out _ _ (fun _ => S6.out) ?_
  clear HK K
  refine anyT_one' (i := 17) (by kernel_rfl) rfl (by rfl) (fun K hK => ?_)
  have HK := Lib.hid hK
  clear hK
  unfold Oper.wp
  go_simp
  refine HK.out _ _ (fun _ => S7.out) ?_
  clear HK K
  refine anyT_one' (i := 18) (by kernel_rfl) rfl (by rfl) (fun K hK => ?_)
  have HK := Lib.hid hK
  clear hK
  unfold Oper.wp
  go_simp
  refine HK.out _ _ (fun _ => S7.out) ?_
  clear HK K
  refine anyT_one' (i := 19) (by kernel_rfl) rfl (by rfl) (fun K hK => ?_)
  have HK := Lib.hid hK
  clear hK
  unfold Oper.wp
  go_simp
  refine HK.out _ _ (fun _ => S8.out) ?_
  clear HK K
  refine anyT_done (by kernel_rfl) ?_ _
  go_wp2_with fail
  go_end0
  exact ⟨rfl, FIN.out⟩
end Go.Proofs.Ytcipgjelbnmdiaa.HP
