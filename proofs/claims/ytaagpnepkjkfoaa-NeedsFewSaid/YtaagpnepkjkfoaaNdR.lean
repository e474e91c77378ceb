/-
  NeedsFew answers true: the walk.
-/
import Derived.Test.YtaagpnepkjkfoaaNdD
namespace Go.Proofs.Ytaagpnepkjkfoaa.N7
open Go.RowKit Go.Shelf Go.Proofs.Ytaagpnepkjkfoaa.B Go.Proofs.Ytaagpnepkjkfoaa.R6

/-- The boxes of the graph and of the tie. -/
structure BT (w : World) (fl tl : Array Value) (W : World) : Prop where
  x : W.heap[w.heap.size]? = some (.cells fl 45 (0, 0))
  y : W.heap[w.heap.size + 1]? = some (.cells tl 62 (0, 0))
  l : Below w.heap.size w W
theorem BT.call {w W W' : World} {fl tl : Array Value} (h : BT w fl tl W) (hb : Below W.heap.size W W') : BT w fl tl W' := ⟨(hb.block _ (blk_lt h.x)).trans h.x, (hb.block _ (blk_lt h.y)).trans h.y, h.l.trans (hb.mono h.l.size)⟩
theorem BT.start (w : World) (fl tl : Array Value) : BT w fl tl ((w.alloc (.cells fl 45)).alloc (.cells tl 62)) := by
  have h1 : (w.alloc (.cells fl 45)).heap.size = w.heap.size + 1 := by simp
  exact ⟨heap_old (by rw [h1]; omega) (heap_new _ _), by rw [← h1]; exact heap_new _ _, ((Below.refl _ _).alloc (Nat.le_refl _) _).alloc (by rw [h1]; omega) _⟩
theorem BT.c {w W : World} {a b : Value} {tl : Array Value} (h : BT w #[a, b] tl W) : W.cell? ⟨w.heap.size, 0, none⟩ = some a ∧ W.cell? ⟨w.heap.size, 1, none⟩ = some b := ⟨cell_blk h.x rfl, cell_blk h.x rfl⟩
theorem BT.d {w W : World} {fl : Array Value} {a b c d : Value} (h : BT w fl #[a, b, c, d] W) : W.cell? ⟨w.heap.size + 1, 0, none⟩ = some a ∧ W.cell? ⟨w.heap.size + 1, 1, none⟩ = some b ∧ W.cell? ⟨w.heap.size + 1, 2, none⟩ = some c ∧ W.cell? ⟨w.heap.size + 1, 3, none⟩ = some d := ⟨cell_blk h.y rfl, cell_blk h.y rfl, cell_blk h.y rfl, cell_blk h.y rfl⟩
theorem info_tie7 : (Try.prog.info? 62).map (fun i => (i.zero, i.size, i.bytes)) = some (some (.agg #[.int .i64 0, .int .i64 0, .int .i64 0, .int .i64 0]), 4, 32) := by kernel_rfl
theorem one_tis (ts : List Ti) : ∀ u ∈ ts.flatMap tiC, u.oneCell' = true := by
  intro u hu
  obtain ⟨x, _, hx⟩ := List.mem_flatMap.1 hu
  simp [tiC] at hx
  rcases hx with rfl | rfl | rfl | rfl <;> rfl
theorem one_ti (x : Ti) : ∀ u ∈ tiC x, u.oneCell' = true := by intro u hu; simp [tiC] at hu; rcases hu with rfl | rfl | rfl | rfl <;> rfl
theorem len_tis (ts : List Ti) : (ts.flatMap tiC).length = ts.length * 4 := by
  induction ts with
  | nil => rfl
  | cons t ts ih => rw [List.flatMap_cons, List.length_append, ih]; simp [tiC]; omega

/-- What stands behind the region: the two boxes, the new one, both graphs. -/
structure GX (w : World) (EA TA va : Option Addr) (ec tc vc : Nat) (es : List Ev) (ts us : List Ti) (u : Ti) (g : Nat) (W : World) : Prop where
  b : BT w #[.slice EA es.length ec, .slice TA ts.length tc] #[.int .i64 u.kind, .int .i64 u.fr, .int .i64 u.to, .int .i64 u.time] W
  z : W.heap[g]? = some (.cells #[.slice EA es.length ec, .slice va us.length vc] 45 (0, 0))
  f : FI W EA TA es ts
  h : FI W EA va es us
section
variable {w W W' : World} {EA TA va : Option Addr} {ec tc vc g : Nat} {es : List Ev} {ts us : List Ti} {u : Ti}
theorem GX.call (h : GX w EA TA va ec tc vc es ts us u g W) (hb : Below W.heap.size W W') : GX w EA TA va ec tc vc es ts us u g W' := ⟨h.b.call hb, (hb.block _ (blk_lt h.z)).trans h.z, h.f.below hb, h.h.below hb⟩
theorem GX.c (h : GX w EA TA va ec tc vc es ts us u g W) : (W.cell? ⟨w.heap.size, 0, none⟩ = some (.slice EA es.length ec) ∧ W.cell? ⟨w.heap.size, 1, none⟩ = some (.slice TA ts.length tc)) ∧ W.cell? ⟨g, 0, none⟩ = some (.slice EA es.length ec) ∧ W.cell? ⟨g, 1, none⟩ = some (.slice va us.length vc) := ⟨h.b.c, cell_blk h.z rfl, cell_blk h.z rfl⟩
end

set_option maxRecDepth 100000 in
set_option maxHeartbeats 8000000 in
theorem few_walk (w : World) (EA TA : Option Addr) (ec tc : Nat) (es : List Ev) (ts : List Ti) (u : Ti) (hf : FI w EA TA es ts) (hnil : TA = none → ts.length = 0 ∧ tc = 0) :
    Calls Try.prog 6 #[FV EA TA es.length ec ts.length tc, tiW u] w fun e w' => e = .returned (.bool true) ∧ Below w.heap.size w w' := by
  obtain ⟨i0, hi0, hi1, hi2, hi3⟩ := info_parts info_tie7
  have X0 := Lib.hid (BT.start w #[.slice EA es.length ec, .slice TA ts.length tc] #[.int .i64 u.kind, .int .i64 u.fr, .int .i64 u.to, .int .i64 u.time])
  have HF := Lib.hid hf
  have HNIL := Lib.hid hnil
  clear hf hnil
  go_enter Try.func6, Try.ntmps6
  go_wp2_with fail
  refine (awake7 _).mono ?_
  rintro e w1 ⟨rfl, hb⟩
  have X1 := Lib.hid (X0.out.call hb)
  obtain ⟨x0, x1⟩ := X1.out.c
  clear hb X0
  go_wp2_with fail
  refine (large7 w1 EA TA ec tc es ts).mono ?_
  rintro e w2 ⟨b, rfl, hb, hsm⟩
  have X2 := Lib.hid (X1.out.call hb)
  clear hb X1 x0 x1
  cases b with
  | true =>
    go_wp2_with fail
    go_ret
    exact ⟨rfl, X2.out.l⟩
  | false =>
    obtain ⟨he, ht⟩ := hsm rfl
    go_wp2_with fail
    have HCE := Lib.hid (fun (W : World) (hW : Below w2.heap.size w2 W) => And.intro (X2.out.call hW).c (X2.out.call hW).d)
    have HRT := Lib.hid (fun (W : World) (hW : Below w2.heap.size w2 W) => (HF.out.below (X2.out.call hW).l).t)
    refine wp_region_post (V := Value × Value × Value × Value × Nat) (fun x a => (((((((((((a.put (some 15) (.pointer (some ⟨w.heap.size, 0, none⟩))).put (some 18) (.pointer (some ⟨w.heap.size, 1, none⟩))).put (some 16) (.slice EA es.length ec)).put (some 19) (.slice TA ts.length tc)).put (some 21) (tiW u)).put (some 17) x.1).put (some 20) x.2.1).put (some 22) x.2.2.1).put (some 23) x.2.2.2.1).put (some 24) (.agg #[.slice EA es.length ec, x.2.2.2.1])).put (some 5) (.pointer (some ⟨x.2.2.2.2, 0, none⟩)))) (fun x w' => FIN w2 (.slice EA es.length ec) x.2.2.2.1 ts u x.2.2.2.2 w') ?_ ?_
    · have T0 := Lib.hid (ST.start w2 u)
      refine wp_region_any (by kernel_rfl) ?_
      refine any_of_T (S := fun w' => Below w2.heap.size w2 w') (z := 11) _ _ _ _ ?_
      change wpAnyT _ _ _ _ _ _ _ _ _ w2.drew
      generalize w2.drew = W0 at *
      refine anyT_take (i := 0) 0 [] (v := ?_) rfl (by kernel_rfl) (by kernel_rfl) (by kernel_rfl) (by kernel_rfl) (fun _ _ _ h => absurd h.1 (by simp)) T0.out.bel (by rfl) ?_ ?_
      rotate_left
      · intro W hSw
        obtain ⟨⟨q0, q1⟩, q2, q3, q4, q5⟩ := HCE.out W hSw
        go_simp
        try with_reducible rfl
      simp only [Act.put, List.setIfInBounds_toArray, List.set_cons_zero, List.set_cons_succ, List.getElem_toArray, List.getElem_cons_zero]
      refine anyT_take (i := 3) 3 [] (v := ?_) rfl (by kernel_rfl) (by kernel_rfl) (by kernel_rfl) (by kernel_rfl) (fun _ _ _ h => absurd h.1 (by simp)) T0.out.bel (by rfl) ?_ ?_
      rotate_left
      · intro W hSw
        obtain ⟨⟨q0, q1⟩, q2, q3, q4, q5⟩ := HCE.out W hSw
        go_simp
        try with_reducible rfl
      simp only [Act.put, List.setIfInBounds_toArray, List.set_cons_zero, List.set_cons_succ, List.getElem_toArray, List.getElem_cons_zero, List.getElem_cons_succ]
      refine anyT_take (i := 1) 1 [] (v := ?_) rfl (by kernel_rfl) (by kernel_rfl) (by kernel_rfl) (by kernel_rfl) (fun _ _ _ h => absurd h.1 (by simp)) T0.out.bel (by rfl) ?_ ?_
      rotate_left
      · intro W hSw
        obtain ⟨⟨q0, q1⟩, q2, q3, q4, q5⟩ := HCE.out W hSw
        go_simp
        try with_reducible rfl
      simp only [Act.put, List.setIfInBounds_toArray, List.set_cons_zero, List.set_cons_succ, List.getElem_toArray, List.getElem_cons_zero, List.getElem_cons_succ]
      refine anyT_take (i := 4) 4 [] (v := ?_) rfl (by kernel_rfl) (by kernel_rfl) (by kernel_rfl) (by kernel_rfl) (fun _ _ _ h => absurd h.1 (by simp)) T0.out.bel (by rfl) ?_ ?_
      rotate_left
      · intro W hSw
        obtain ⟨⟨q0, q1⟩, q2, q3, q4, q5⟩ := HCE.out W hSw
        go_simp
        try with_reducible rfl
      simp only [Act.put, List.setIfInBounds_toArray, List.set_cons_zero, List.set_cons_succ, List.getElem_toArray, List.getElem_cons_zero, List.getElem_cons_succ]
      refine anyT_take (i := 6) 6 [] (v := ?_) rfl (by kernel_rfl) (by kernel_rfl) (by kernel_rfl) (by kernel_rfl) (fun _ _ _ h => absurd h.1 (by simp)) T0.out.bel (by rfl) ?_ ?_
      rotate_left
      · intro W hSw
        obtain ⟨⟨q0, q1⟩, q2, q3, q4, q5⟩ := HCE.out W hSw
        go_simp
        try with_reducible rfl
      simp only [Act.put, List.setIfInBounds_toArray, List.set_cons_zero, List.set_cons_succ, List.getElem_toArray, List.getElem_cons_zero, List.getElem_cons_succ]
      refine anyT_ready (rs := [2, 7, 10]) (by kernel_rfl) (by simp) (AllT.cons rfl (by rfl) (fun K hK => ?_) (AllT.cons rfl (by rfl) (fun K hK => ?_) (AllT.cons rfl (by rfl) (fun K hK => ?_) (AllT.nil))))
      · unfold Oper.wp
        go_simp
        have T1 := Lib.hid T0.out.lit
        clear T0
        generalize W0.alloc (.cells #[] 62) = W1 at *
        generalize W0.heap.size = g17 at *
        refine hK _ _ (fun _ => T1.out.bel) ?_
        clear hK K
        refine anyT_ready (rs := [5, 7, 10]) (by kernel_rfl) (by simp) (AllT.cons rfl (by rfl) (fun K hK => ?_) (AllT.cons rfl (by rfl) (fun K hK => ?_) (AllT.cons rfl (by rfl) (fun K hK => ?_) (AllT.nil))))
        · refine wp_append_at (.tmp 17) (.tmp 19) 43 (by rfl) w2.heap.size 62 i0 _ 4 32 Try.underlying43 hi0 hi1 hi2 hi3 rfl (by omega) (.slice (some ⟨g17, 0, none⟩) 0 0) 0 [] (by rfl) (T1.out.row _ rfl) TA ts.length tc (ts.flatMap tiC) (by rfl) HNIL.out (len_tis ts) (HRT.out _ T1.out.bel) (one_tis ts) (by unfold maxLen; omega) (by omega) T1.out.bel.size ?_
          intro v20 W2 ho hg hl
          rw [Nat.zero_add, List.nil_append] at ho
          have T2 := Lib.hid (T1.out.app ho hg hl)
          clear ho hg hl T1
          refine hK _ _ (fun _ => T2.out.bel) ?_
          clear hK K
          simp only [Act.put, List.setIfInBounds_toArray, List.set_cons_zero, List.set_cons_succ, List.getElem_toArray, List.getElem_cons_zero, List.getElem_cons_succ]
          refine anyT_ready (rs := [7, 10]) (by kernel_rfl) (by simp) (AllT.cons rfl (by rfl) (fun K hK => ?_) (AllT.cons rfl (by rfl) (fun K hK => ?_) (AllT.nil)))
          · unfold Oper.wp
            go_simp
            have T3 := Lib.hid T2.out.tie
            clear T2
            generalize W2.alloc (.cells #[.int .i64 u.kind, .int .i64 u.fr, .int .i64 u.to, .int .i64 u.time] 62) = W3 at *
            generalize W2.heap.size = g22 at *
            refine hK _ _ (fun _ => T3.out.bel) ?_
            clear hK K
            refine anyT_ready (rs := [8, 10]) (by kernel_rfl) (by simp) (AllT.cons rfl (by rfl) (fun K hK => ?_) (AllT.cons rfl (by rfl) (fun K hK => ?_) (AllT.nil)))
            · refine wp_append_at (.tmp 20) (.tmp 22) 43 (by rfl) w2.heap.size 62 i0 _ 4 32 Try.underlying43 hi0 hi1 hi2 hi3 rfl (by omega) v20 ts.length (ts.flatMap tiC) (by rfl) (T3.out.row _ rfl) (some ⟨g22, 0, none⟩) 1 1 (tiC u) (by rfl) (fun e => by cases e) rfl T3.out.rowq (one_ti u) (by unfold maxLen; omega) (by omega) T3.out.bel.size ?_
              intro v23 W4 ho hg hl
              obtain ⟨va, vc, rfl⟩ := own_slice ho
              have T4 := Lib.hid (T3.out.app ho hg hl)
              clear ho hg hl T3
              refine hK _ _ (fun _ => T4.out.bel) ?_
              clear hK K
              simp only [Act.put, List.setIfInBounds_toArray, List.set_cons_zero, List.set_cons_succ, List.getElem_toArray, List.getElem_cons_zero, List.getElem_cons_succ]
              refine anyT_take (i := 9) 9 [] (v := ?_) rfl (by kernel_rfl) (by kernel_rfl) (by kernel_rfl) (by kernel_rfl) (fun _ _ _ h => absurd h.1 (by simp)) T4.out.bel (by rfl) ?_ ?_
              rotate_left
              · intro W hSw
                go_simp
                try with_reducible rfl
              simp only [Act.put, List.setIfInBounds_toArray, List.set_cons_zero, List.set_cons_succ, List.getElem_toArray, List.getElem_cons_zero, List.getElem_cons_succ]
              refine anyT_one' (i := 10) (by kernel_rfl) rfl (by rfl) (fun K hK => ?_)
              unfold Oper.wp
              go_simp
              have T5 := Lib.hid T4.out.new
              clear T4
              generalize W4.alloc (.cells #[.slice none 0 0, .slice none 0 0] 45) = W5 at *
              generalize W4.heap.size = g5 at *
              refine hK _ _ (fun _ => T5.out.bel) ?_
              clear hK K
              refine anyT_one' (i := 11) (by kernel_rfl) rfl (by rfl) (fun K hK => ?_)
              obtain ⟨⟨c0, c1⟩, c2, c3⟩ := T5.out.cells
              unfold Oper.wp
              go_simp
              refine hK _ _ (fun h => absurd rfl h) ?_
              refine anyT_done (by kernel_rfl) ?_ _
              exact ⟨rfl, (.slice (some ⟨g17, 0, none⟩) 0 0, v20, .slice (some ⟨g22, 0, none⟩) 1 1, .slice va (ts.length + 1) vc, g5), rfl, T5.out.fin⟩
            · unfold Oper.wp
              go_simp
              have T4 := Lib.hid T3.out.new
              clear T3
              generalize W3.alloc (.cells #[.slice none 0 0, .slice none 0 0] 45) = W4 at *
              generalize W3.heap.size = g5 at *
              refine hK _ _ (fun _ => T4.out.bel) ?_
              clear hK K
              refine anyT_one' (i := 8) (by kernel_rfl) rfl (by rfl) (fun K hK => ?_)
              refine wp_append_at (.tmp 20) (.tmp 22) 43 (by rfl) w2.heap.size 62 i0 _ 4 32 Try.underlying43 hi0 hi1 hi2 hi3 rfl (by omega) v20 ts.length (ts.flatMap tiC) (by rfl) (T4.out.row _ rfl) (some ⟨g22, 0, none⟩) 1 1 (tiC u) (by rfl) (fun e => by cases e) rfl T4.out.rowq (one_ti u) (by unfold maxLen; omega) (by omega) T4.out.bel.size ?_
              intro v23 W5 ho hg hl
              obtain ⟨va, vc, rfl⟩ := own_slice ho
              have T5 := Lib.hid (T4.out.app ho hg hl)
              clear ho hg hl T4
              refine hK _ _ (fun _ => T5.out.bel) ?_
              clear hK K
              simp only [Act.put, List.setIfInBounds_toArray, List.set_cons_zero, List.set_cons_succ, List.getElem_toArray, List.getElem_cons_zero, List.getElem_cons_succ]
              refine anyT_take (i := 9) 9 [] (v := ?_) rfl (by kernel_rfl) (by kernel_rfl) (by kernel_rfl) (by kernel_rfl) (fun _ _ _ h => absurd h.1 (by simp)) T5.out.bel (by rfl) ?_ ?_
              rotate_left
              · intro W hSw
                go_simp
                try with_reducible rfl
              simp only [Act.put, List.setIfInBounds_toArray, List.set_cons_zero, List.set_cons_succ, List.getElem_toArray, List.getElem_cons_zero, List.getElem_cons_succ]
              refine anyT_one' (i := 11) (by kernel_rfl) rfl (by rfl) (fun K hK => ?_)
              obtain ⟨⟨c0, c1⟩, c2, c3⟩ := T5.out.cells
              unfold Oper.wp
              go_simp
              refine hK _ _ (fun h => absurd rfl h) ?_
              refine anyT_done (by kernel_rfl) ?_ _
              exact ⟨rfl, (.slice (some ⟨g17, 0, none⟩) 0 0, v20, .slice (some ⟨g22, 0, none⟩) 1 1, .slice va (ts.length + 1) vc, g5), rfl, T5.out.fin⟩
          · unfold Oper.wp
            go_simp
            have T3 := Lib.hid T2.out.new
            clear T2
            generalize W2.alloc (.cells #[.slice none 0 0, .slice none 0 0] 45) = W3 at *
            generalize W2.heap.size = g5 at *
            refine hK _ _ (fun _ => T3.out.bel) ?_
            clear hK K
            refine anyT_one' (i := 7) (by kernel_rfl) rfl (by rfl) (fun K hK => ?_)
            unfold Oper.wp
            go_simp
            have T4 := Lib.hid T3.out.tie
            clear T3
            generalize W3.alloc (.cells #[.int .i64 u.kind, .int .i64 u.fr, .int .i64 u.to, .int .i64 u.time] 62) = W4 at *
            generalize W3.heap.size = g22 at *
            refine hK _ _ (fun _ => T4.out.bel) ?_
            clear hK K
            refine anyT_one' (i := 8) (by kernel_rfl) rfl (by rfl) (fun K hK => ?_)
            refine wp_append_at (.tmp 20) (.tmp 22) 43 (by rfl) w2.heap.size 62 i0 _ 4 32 Try.underlying43 hi0 hi1 hi2 hi3 rfl (by omega) v20 ts.length (ts.flatMap tiC) (by rfl) (T4.out.row _ rfl) (some ⟨g22, 0, none⟩) 1 1 (tiC u) (by rfl) (fun e => by cases e) rfl T4.out.rowq (one_ti u) (by unfold maxLen; omega) (by omega) T4.out.bel.size ?_
            intro v23 W5 ho hg hl
            obtain ⟨va, vc, rfl⟩ := own_slice ho
            have T5 := Lib.hid (T4.out.app ho hg hl)
            clear ho hg hl T4
            refine hK _ _ (fun _ => T5.out.bel) ?_
            clear hK K
            simp only [Act.put, List.setIfInBounds_toArray, List.set_cons_zero, List.set_cons_succ, List.getElem_toArray, List.getElem_cons_zero, List.getElem_cons_succ]
            refine anyT_take (i := 9) 9 [] (v := ?_) rfl (by kernel_rfl) (by kernel_rfl) (by kernel_rfl) (by kernel_rfl) (fun _ _ _ h => absurd h.1 (by simp)) T5.out.bel (by rfl) ?_ ?_
            rotate_left
            · intro W hSw
              go_simp
              try with_reducible rfl
            simp only [Act.put, List.setIfInBounds_toArray, List.set_cons_zero, List.set_cons_succ, List.getElem_toArray, List.getElem_cons_zero, List.getElem_cons_succ]
            refine anyT_one' (i := 11) (by kernel_rfl) rfl (by rfl) (fun K hK => ?_)
            obtain ⟨⟨c0, c1⟩, c2, c3⟩ := T5.out.cells
            unfold Oper.wp
            go_simp
            refine hK _ _ (fun h => absurd rfl h) ?_
            refine anyT_done (by kernel_rfl) ?_ _
            exact ⟨rfl, (.slice (some ⟨g17, 0, none⟩) 0 0, v20, .slice (some ⟨g22, 0, none⟩) 1 1, .slice va (ts.length + 1) vc, g5), rfl, T5.out.fin⟩
        · unfold Oper.wp
          go_simp
          have T2 := Lib.hid T1.out.tie
          clear T1
          generalize W1.alloc (.cells #[.int .i64 u.kind, .int .i64 u.fr, .int .i64 u.to, .int .i64 u.time] 62) = W2 at *
          generalize W1.heap.size = g22 at *
          refine hK _ _ (fun _ => T2.out.bel) ?_
          clear hK K
          refine anyT_ready (rs := [5, 10]) (by kernel_rfl) (by simp) (AllT.cons rfl (by rfl) (fun K hK => ?_) (AllT.cons rfl (by rfl) (fun K hK => ?_) (AllT.nil)))
          · refine wp_append_at (.tmp 17) (.tmp 19) 43 (by rfl) w2.heap.size 62 i0 _ 4 32 Try.underlying43 hi0 hi1 hi2 hi3 rfl (by omega) (.slice (some ⟨g17, 0, none⟩) 0 0) 0 [] (by rfl) (T2.out.row _ rfl) TA ts.length tc (ts.flatMap tiC) (by rfl) HNIL.out (len_tis ts) (HRT.out _ T2.out.bel) (one_tis ts) (by unfold maxLen; omega) (by omega) T2.out.bel.size ?_
            intro v20 W3 ho hg hl
            rw [Nat.zero_add, List.nil_append] at ho
            have T3 := Lib.hid (T2.out.app ho hg hl)
            clear ho hg hl T2
            refine hK _ _ (fun _ => T3.out.bel) ?_
            clear hK K
            simp only [Act.put, List.setIfInBounds_toArray, List.set_cons_zero, List.set_cons_succ, List.getElem_toArray, List.getElem_cons_zero, List.getElem_cons_succ]
            refine anyT_ready (rs := [8, 10]) (by kernel_rfl) (by simp) (AllT.cons rfl (by rfl) (fun K hK => ?_) (AllT.cons rfl (by rfl) (fun K hK => ?_) (AllT.nil)))
            · refine wp_append_at (.tmp 20) (.tmp 22) 43 (by rfl) w2.heap.size 62 i0 _ 4 32 Try.underlying43 hi0 hi1 hi2 hi3 rfl (by omega) v20 ts.length (ts.flatMap tiC) (by rfl) (T3.out.row _ rfl) (some ⟨g22, 0, none⟩) 1 1 (tiC u) (by rfl) (fun e => by cases e) rfl T3.out.rowq (one_ti u) (by unfold maxLen; omega) (by omega) T3.out.bel.size ?_
              intro v23 W4 ho hg hl
              obtain ⟨va, vc, rfl⟩ := own_slice ho
              have T4 := Lib.hid (T3.out.app ho hg hl)
              clear ho hg hl T3
              refine hK _ _ (fun _ => T4.out.bel) ?_
              clear hK K
              simp only [Act.put, List.setIfInBounds_toArray, List.set_cons_zero, List.set_cons_succ, List.getElem_toArray, List.getElem_cons_zero, List.getElem_cons_succ]
              refine anyT_take (i := 9) 9 [] (v := ?_) rfl (by kernel_rfl) (by kernel_rfl) (by kernel_rfl) (by kernel_rfl) (fun _ _ _ h => absurd h.1 (by simp)) T4.out.bel (by rfl) ?_ ?_
              rotate_left
              · intro W hSw
                go_simp
                try with_reducible rfl
              simp only [Act.put, List.setIfInBounds_toArray, List.set_cons_zero, List.set_cons_succ, List.getElem_toArray, List.getElem_cons_zero, List.getElem_cons_succ]
              refine anyT_one' (i := 10) (by kernel_rfl) rfl (by rfl) (fun K hK => ?_)
              unfold Oper.wp
              go_simp
              have T5 := Lib.hid T4.out.new
              clear T4
              generalize W4.alloc (.cells #[.slice none 0 0, .slice none 0 0] 45) = W5 at *
              generalize W4.heap.size = g5 at *
              refine hK _ _ (fun _ => T5.out.bel) ?_
              clear hK K
              refine anyT_one' (i := 11) (by kernel_rfl) rfl (by rfl) (fun K hK => ?_)
              obtain ⟨⟨c0, c1⟩, c2, c3⟩ := T5.out.cells
              unfold Oper.wp
              go_simp
              refine hK _ _ (fun h => absurd rfl h) ?_
              refine anyT_done (by kernel_rfl) ?_ _
              exact ⟨rfl, (.slice (some ⟨g17, 0, none⟩) 0 0, v20, .slice (some ⟨g22, 0, none⟩) 1 1, .slice va (ts.length + 1) vc, g5), rfl, T5.out.fin⟩
            · unfold Oper.wp
              go_simp
              have T4 := Lib.hid T3.out.new
              clear T3
              generalize W3.alloc (.cells #[.slice none 0 0, .slice none 0 0] 45) = W4 at *
              generalize W3.heap.size = g5 at *
              refine hK _ _ (fun _ => T4.out.bel) ?_
              clear hK K
              refine anyT_one' (i := 8) (by kernel_rfl) rfl (by rfl) (fun K hK => ?_)
              refine wp_append_at (.tmp 20) (.tmp 22) 43 (by rfl) w2.heap.size 62 i0 _ 4 32 Try.underlying43 hi0 hi1 hi2 hi3 rfl (by omega) v20 ts.length (ts.flatMap tiC) (by rfl) (T4.out.row _ rfl) (some ⟨g22, 0, none⟩) 1 1 (tiC u) (by rfl) (fun e => by cases e) rfl T4.out.rowq (one_ti u) (by unfold maxLen; omega) (by omega) T4.out.bel.size ?_
              intro v23 W5 ho hg hl
              obtain ⟨va, vc, rfl⟩ := own_slice ho
              have T5 := Lib.hid (T4.out.app ho hg hl)
              clear ho hg hl T4
              refine hK _ _ (fun _ => T5.out.bel) ?_
              clear hK K
              simp only [Act.put, List.setIfInBounds_toArray, List.set_cons_zero, List.set_cons_succ, List.getElem_toArray, List.getElem_cons_zero, List.getElem_cons_succ]
              refine anyT_take (i := 9) 9 [] (v := ?_) rfl (by kernel_rfl) (by kernel_rfl) (by kernel_rfl) (by kernel_rfl) (fun _ _ _ h => absurd h.1 (by simp)) T5.out.bel (by rfl) ?_ ?_
              rotate_left
              · intro W hSw
                go_simp
                try with_reducible rfl
              simp only [Act.put, List.setIfInBounds_toArray, List.set_cons_zero, List.set_cons_succ, List.getElem_toArray, List.getElem_cons_zero, List.getElem_cons_succ]
              refine anyT_one' (i := 11) (by kernel_rfl) rfl (by rfl) (fun K hK => ?_)
              obtain ⟨⟨c0, c1⟩, c2, c3⟩ := T5.out.cells
              unfold Oper.wp
              go_simp
              refine hK _ _ (fun h => absurd rfl h) ?_
              refine anyT_done (by kernel_rfl) ?_ _
              exact ⟨rfl, (.slice (some ⟨g17, 0, none⟩) 0 0, v20, .slice (some ⟨g22, 0, none⟩) 1 1, .slice va (ts.length + 1) vc, g5), rfl, T5.out.fin⟩
          · unfold Oper.wp
            go_simp
            have T3 := Lib.hid T2.out.new
            clear T2
            generalize W2.alloc (.cells #[.slice none 0 0, .slice none 0 0] 45) = W3 at *
            generalize W2.heap.size = g5 at *
            refine hK _ _ (fun _ => T3.out.bel) ?_
            clear hK K
            refine anyT_one' (i := 5) (by kernel_rfl) rfl (by rfl) (fun K hK => ?_)
            refine wp_append_at (.tmp 17) (.tmp 19) 43 (by rfl) w2.heap.size 62 i0 _ 4 32 Try.underlying43 hi0 hi1 hi2 hi3 rfl (by omega) (.slice (some ⟨g17, 0, none⟩) 0 0) 0 [] (by rfl) (T3.out.row _ rfl) TA ts.length tc (ts.flatMap tiC) (by rfl) HNIL.out (len_tis ts) (HRT.out _ T3.out.bel) (one_tis ts) (by unfold maxLen; omega) (by omega) T3.out.bel.size ?_
            intro v20 W4 ho hg hl
            rw [Nat.zero_add, List.nil_append] at ho
            have T4 := Lib.hid (T3.out.app ho hg hl)
            clear ho hg hl T3
            refine hK _ _ (fun _ => T4.out.bel) ?_
            clear hK K
            simp only [Act.put, List.setIfInBounds_toArray, List.set_cons_zero, List.set_cons_succ, List.getElem_toArray, List.getElem_cons_zero, List.getElem_cons_succ]
            refine anyT_one' (i := 8) (by kernel_rfl) rfl (by rfl) (fun K hK => ?_)
            refine wp_append_at (.tmp 20) (.tmp 22) 43 (by rfl) w2.heap.size 62 i0 _ 4 32 Try.underlying43 hi0 hi1 hi2 hi3 rfl (by omega) v20 ts.length (ts.flatMap tiC) (by rfl) (T4.out.row _ rfl) (some ⟨g22, 0, none⟩) 1 1 (tiC u) (by rfl) (fun e => by cases e) rfl T4.out.rowq (one_ti u) (by unfold maxLen; omega) (by omega) T4.out.bel.size ?_
            intro v23 W5 ho hg hl
            obtain ⟨va, vc, rfl⟩ := own_slice ho
            have T5 := Lib.hid (T4.out.app ho hg hl)
            clear ho hg hl T4
            refine hK _ _ (fun _ => T5.out.bel) ?_
            clear hK K
            simp only [Act.put, List.setIfInBounds_toArray, List.set_cons_zero, List.set_cons_succ, List.getElem_toArray, List.getElem_cons_zero, List.getElem_cons_succ]
            refine anyT_take (i := 9) 9 [] (v := ?_) rfl (by kernel_rfl) (by kernel_rfl) (by kernel_rfl) (by kernel_rfl) (fun _ _ _ h => absurd h.1 (by simp)) T5.out.bel (by rfl) ?_ ?_
            rotate_left
            · intro W hSw
              go_simp
              try with_reducible rfl
            simp only [Act.put, List.setIfInBounds_toArray, List.set_cons_zero, List.set_cons_succ, List.getElem_toArray, List.getElem_cons_zero, List.getElem_cons_succ]
            refine anyT_one' (i := 11) (by kernel_rfl) rfl (by rfl) (fun K hK => ?_)
            obtain ⟨⟨c0, c1⟩, c2, c3⟩ := T5.out.cells
            unfold Oper.wp
            go_simp
            refine hK _ _ (fun h => absurd rfl h) ?_
            refine anyT_done (by kernel_rfl) ?_ _
            exact ⟨rfl, (.slice (some ⟨g17, 0, none⟩) 0 0, v20, .slice (some ⟨g22, 0, none⟩) 1 1, .slice va (ts.length + 1) vc, g5), rfl, T5.out.fin⟩
        · unfold Oper.wp
          go_simp
          have T2 := Lib.hid T1.out.new
          clear T1
          generalize W1.alloc (.cells #[.slice none 0 0, .slice none 0 0] 45) = W2 at *
          generalize W1.heap.size = g5 at *
          refine hK _ _ (fun _ => T2.out.bel) ?_
          clear hK K
          refine anyT_ready (rs := [5, 7]) (by kernel_rfl) (by simp) (AllT.cons rfl (by rfl) (fun K hK => ?_) (AllT.cons rfl (by rfl) (fun K hK => ?_) (AllT.nil)))
          · refine wp_append_at (.tmp 17) (.tmp 19) 43 (by rfl) w2.heap.size 62 i0 _ 4 32 Try.underlying43 hi0 hi1 hi2 hi3 rfl (by omega) (.slice (some ⟨g17, 0, none⟩) 0 0) 0 [] (by rfl) (T2.out.row _ rfl) TA ts.length tc (ts.flatMap tiC) (by rfl) HNIL.out (len_tis ts) (HRT.out _ T2.out.bel) (one_tis ts) (by unfold maxLen; omega) (by omega) T2.out.bel.size ?_
            intro v20 W3 ho hg hl
            rw [Nat.zero_add, List.nil_append] at ho
            have T3 := Lib.hid (T2.out.app ho hg hl)
            clear ho hg hl T2
            refine hK _ _ (fun _ => T3.out.bel) ?_
            clear hK K
            simp only [Act.put, List.setIfInBounds_toArray, List.set_cons_zero, List.set_cons_succ, List.getElem_toArray, List.getElem_cons_zero, List.getElem_cons_succ]
            refine anyT_one' (i := 7) (by kernel_rfl) rfl (by rfl) (fun K hK => ?_)
            unfold Oper.wp
            go_simp
            have T4 := Lib.hid T3.out.tie
            clear T3
            generalize W3.alloc (.cells #[.int .i64 u.kind, .int .i64 u.fr, .int .i64 u.to, .int .i64 u.time] 62) = W4 at *
            generalize W3.heap.size = g22 at *
            refine hK _ _ (fun _ => T4.out.bel) ?_
            clear hK K
            refine anyT_one' (i := 8) (by kernel_rfl) rfl (by rfl) (fun K hK => ?_)
            refine wp_append_at (.tmp 20) (.tmp 22) 43 (by rfl) w2.heap.size 62 i0 _ 4 32 Try.underlying43 hi0 hi1 hi2 hi3 rfl (by omega) v20 ts.length (ts.flatMap tiC) (by rfl) (T4.out.row _ rfl) (some ⟨g22, 0, none⟩) 1 1 (tiC u) (by rfl) (fun e => by cases e) rfl T4.out.rowq (one_ti u) (by unfold maxLen; omega) (by omega) T4.out.bel.size ?_
            intro v23 W5 ho hg hl
            obtain ⟨va, vc, rfl⟩ := own_slice ho
            have T5 := Lib.hid (T4.out.app ho hg hl)
            clear ho hg hl T4
            refine hK _ _ (fun _ => T5.out.bel) ?_
            clear hK K
            simp only [Act.put, List.setIfInBounds_toArray, List.set_cons_zero, List.set_cons_succ, List.getElem_toArray, List.getElem_cons_zero, List.getElem_cons_succ]
            refine anyT_take (i := 9) 9 [] (v := ?_) rfl (by kernel_rfl) (by kernel_rfl) (by kernel_rfl) (by kernel_rfl) (fun _ _ _ h => absurd h.1 (by simp)) T5.out.bel (by rfl) ?_ ?_
            rotate_left
            · intro W hSw
              go_simp
              try with_reducible rfl
            simp only [Act.put, List.setIfInBounds_toArray, List.set_cons_zero, List.set_cons_succ, List.getElem_toArray, List.getElem_cons_zero, List.getElem_cons_succ]
            refine anyT_one' (i := 11) (by kernel_rfl) rfl (by rfl) (fun K hK => ?_)
            obtain ⟨⟨c0, c1⟩, c2, c3⟩ := T5.out.cells
            unfold Oper.wp
            go_simp
            refine hK _ _ (fun h => absurd rfl h) ?_
            refine anyT_done (by kernel_rfl) ?_ _
            exact ⟨rfl, (.slice (some ⟨g17, 0, none⟩) 0 0, v20, .slice (some ⟨g22, 0, none⟩) 1 1, .slice va (ts.length + 1) vc, g5), rfl, T5.out.fin⟩
          · unfold Oper.wp
            go_simp
            have T3 := Lib.hid T2.out.tie
            clear T2
            generalize W2.alloc (.cells #[.int .i64 u.kind, .int .i64 u.fr, .int .i64 u.to, .int .i64 u.time] 62) = W3 at *
            generalize W2.heap.size = g22 at *
            refine hK _ _ (fun _ => T3.out.bel) ?_
            clear hK K
            refine anyT_one' (i := 5) (by kernel_rfl) rfl (by rfl) (fun K hK => ?_)
            refine wp_append_at (.tmp 17) (.tmp 19) 43 (by rfl) w2.heap.size 62 i0 _ 4 32 Try.underlying43 hi0 hi1 hi2 hi3 rfl (by omega) (.slice (some ⟨g17, 0, none⟩) 0 0) 0 [] (by rfl) (T3.out.row _ rfl) TA ts.length tc (ts.flatMap tiC) (by rfl) HNIL.out (len_tis ts) (HRT.out _ T3.out.bel) (one_tis ts) (by unfold maxLen; omega) (by omega) T3.out.bel.size ?_
            intro v20 W4 ho hg hl
            rw [Nat.zero_add, List.nil_append] at ho
            have T4 := Lib.hid (T3.out.app ho hg hl)
            clear ho hg hl T3
            refine hK _ _ (fun _ => T4.out.bel) ?_
            clear hK K
            simp only [Act.put, List.setIfInBounds_toArray, List.set_cons_zero, List.set_cons_succ, List.getElem_toArray, List.getElem_cons_zero, List.getElem_cons_succ]
            refine anyT_one' (i := 8) (by kernel_rfl) rfl (by rfl) (fun K hK => ?_)
            refine wp_append_at (.tmp 20) (.tmp 22) 43 (by rfl) w2.heap.size 62 i0 _ 4 32 Try.underlying43 hi0 hi1 hi2 hi3 rfl (by omega) v20 ts.length (ts.flatMap tiC) (by rfl) (T4.out.row _ rfl) (some ⟨g22, 0, none⟩) 1 1 (tiC u) (by rfl) (fun e => by cases e) rfl T4.out.rowq (one_ti u) (by unfold maxLen; omega) (by omega) T4.out.bel.size ?_
            intro v23 W5 ho hg hl
            obtain ⟨va, vc, rfl⟩ := own_slice ho
            have T5 := Lib.hid (T4.out.app ho hg hl)
            clear ho hg hl T4
            refine hK _ _ (fun _ => T5.out.bel) ?_
            clear hK K
            simp only [Act.put, List.setIfInBounds_toArray, List.set_cons_zero, List.set_cons_succ, List.getElem_toArray, List.getElem_cons_zero, List.getElem_cons_succ]
            refine anyT_take (i := 9) 9 [] (v := ?_) rfl (by kernel_rfl) (by kernel_rfl) (by kernel_rfl) (by kernel_rfl) (fun _ _ _ h => absurd h.1 (by simp)) T5.out.bel (by rfl) ?_ ?_
            rotate_left
            · intro W hSw
              go_simp
              try with_reducible rfl
            simp only [Act.put, List.setIfInBounds_toArray, List.set_cons_zero, List.set_cons_succ, List.getElem_toArray, List.getElem_cons_zero, List.getElem_cons_succ]
            refine anyT_one' (i := 11) (by kernel_rfl) rfl (by rfl) (fun K hK => ?_)
            obtain ⟨⟨c0, c1⟩, c2, c3⟩ := T5.out.cells
            unfold Oper.wp
            go_simp
            refine hK _ _ (fun h => absurd rfl h) ?_
            refine anyT_done (by kernel_rfl) ?_ _
            exact ⟨rfl, (.slice (some ⟨g17, 0, none⟩) 0 0, v20, .slice (some ⟨g22, 0, none⟩) 1 1, .slice va (ts.length + 1) vc, g5), rfl, T5.out.fin⟩
      · unfold Oper.wp
        go_simp
        have T1 := Lib.hid T0.out.tie
        clear T0
        generalize W0.alloc (.cells #[.int .i64 u.kind, .int .i64 u.fr, .int .i64 u.to, .int .i64 u.time] 62) = W1 at *
        generalize W0.heap.size = g22 at *
        refine hK _ _ (fun _ => T1.out.bel) ?_
        clear hK K
        refine anyT_ready (rs := [2, 10]) (by kernel_rfl) (by simp) (AllT.cons rfl (by rfl) (fun K hK => ?_) (AllT.cons rfl (by rfl) (fun K hK => ?_) (AllT.nil)))
        · unfold Oper.wp
          go_simp
          have T2 := Lib.hid T1.out.lit
          clear T1
          generalize W1.alloc (.cells #[] 62) = W2 at *
          generalize W1.heap.size = g17 at *
          refine hK _ _ (fun _ => T2.out.bel) ?_
          clear hK K
          refine anyT_ready (rs := [5, 10]) (by kernel_rfl) (by simp) (AllT.cons rfl (by rfl) (fun K hK => ?_) (AllT.cons rfl (by rfl) (fun K hK => ?_) (AllT.nil)))
          · refine wp_append_at (.tmp 17) (.tmp 19) 43 (by rfl) w2.heap.size 62 i0 _ 4 32 Try.underlying43 hi0 hi1 hi2 hi3 rfl (by omega) (.slice (some ⟨g17, 0, none⟩) 0 0) 0 [] (by rfl) (T2.out.row _ rfl) TA ts.length tc (ts.flatMap tiC) (by rfl) HNIL.out (len_tis ts) (HRT.out _ T2.out.bel) (one_tis ts) (by unfold maxLen; omega) (by omega) T2.out.bel.size ?_
            intro v20 W3 ho hg hl
            rw [Nat.zero_add, List.nil_append] at ho
            have T3 := Lib.hid (T2.out.app ho hg hl)
            clear ho hg hl T2
            refine hK _ _ (fun _ => T3.out.bel) ?_
            clear hK K
            simp only [Act.put, List.setIfInBounds_toArray, List.set_cons_zero, List.set_cons_succ, List.getElem_toArray, List.getElem_cons_zero, List.getElem_cons_succ]
            refine anyT_ready (rs := [8, 10]) (by kernel_rfl) (by simp) (AllT.cons rfl (by rfl) (fun K hK => ?_) (AllT.cons rfl (by rfl) (fun K hK => ?_) (AllT.nil)))
            · refine wp_append_at (.tmp 20) (.tmp 22) 43 (by rfl) w2.heap.size 62 i0 _ 4 32 Try.underlying43 hi0 hi1 hi2 hi3 rfl (by omega) v20 ts.length (ts.flatMap tiC) (by rfl) (T3.out.row _ rfl) (some ⟨g22, 0, none⟩) 1 1 (tiC u) (by rfl) (fun e => by cases e) rfl T3.out.rowq (one_ti u) (by unfold maxLen; omega) (by omega) T3.out.bel.size ?_
              intro v23 W4 ho hg hl
              obtain ⟨va, vc, rfl⟩ := own_slice ho
              have T4 := Lib.hid (T3.out.app ho hg hl)
              clear ho hg hl T3
              refine hK _ _ (fun _ => T4.out.bel) ?_
              clear hK K
              simp only [Act.put, List.setIfInBounds_toArray, List.set_cons_zero, List.set_cons_succ, List.getElem_toArray, List.getElem_cons_zero, List.getElem_cons_succ]
              refine anyT_take (i := 9) 9 [] (v := ?_) rfl (by kernel_rfl) (by kernel_rfl) (by kernel_rfl) (by kernel_rfl) (fun _ _ _ h => absurd h.1 (by simp)) T4.out.bel (by rfl) ?_ ?_
              rotate_left
              · intro W hSw
                go_simp
                try with_reducible rfl
              simp only [Act.put, List.setIfInBounds_toArray, List.set_cons_zero, List.set_cons_succ, List.getElem_toArray, List.getElem_cons_zero, List.getElem_cons_succ]
              refine anyT_one' (i := 10) (by kernel_rfl) rfl (by rfl) (fun K hK => ?_)
              unfold Oper.wp
              go_simp
              have T5 := Lib.hid T4.out.new
              clear T4
              generalize W4.alloc (.cells #[.slice none 0 0, .slice none 0 0] 45) = W5 at *
              generalize W4.heap.size = g5 at *
              refine hK _ _ (fun _ => T5.out.bel) ?_
              clear hK K
              refine anyT_one' (i := 11) (by kernel_rfl) rfl (by rfl) (fun K hK => ?_)
              obtain ⟨⟨c0, c1⟩, c2, c3⟩ := T5.out.cells
              unfold Oper.wp
              go_simp
              refine hK _ _ (fun h => absurd rfl h) ?_
              refine anyT_done (by kernel_rfl) ?_ _
              exact ⟨rfl, (.slice (some ⟨g17, 0, none⟩) 0 0, v20, .slice (some ⟨g22, 0, none⟩) 1 1, .slice va (ts.length + 1) vc, g5), rfl, T5.out.fin⟩
            · unfold Oper.wp
              go_simp
              have T4 := Lib.hid T3.out.new
              clear T3
              generalize W3.alloc (.cells #[.slice none 0 0, .slice none 0 0] 45) = W4 at *
              generalize W3.heap.size = g5 at *
              refine hK _ _ (fun _ => T4.out.bel) ?_
              clear hK K
              refine anyT_one' (i := 8) (by kernel_rfl) rfl (by rfl) (fun K hK => ?_)
              refine wp_append_at (.tmp 20) (.tmp 22) 43 (by rfl) w2.heap.size 62 i0 _ 4 32 Try.underlying43 hi0 hi1 hi2 hi3 rfl (by omega) v20 ts.length (ts.flatMap tiC) (by rfl) (T4.out.row _ rfl) (some ⟨g22, 0, none⟩) 1 1 (tiC u) (by rfl) (fun e => by cases e) rfl T4.out.rowq (one_ti u) (by unfold maxLen; omega) (by omega) T4.out.bel.size ?_
              intro v23 W5 ho hg hl
              obtain ⟨va, vc, rfl⟩ := own_slice ho
              have T5 := Lib.hid (T4.out.app ho hg hl)
              clear ho hg hl T4
              refine hK _ _ (fun _ => T5.out.bel) ?_
              clear hK K
              simp only [Act.put, List.setIfInBounds_toArray, List.set_cons_zero, List.set_cons_succ, List.getElem_toArray, List.getElem_cons_zero, List.getElem_cons_succ]
              refine anyT_take (i := 9) 9 [] (v := ?_) rfl (by kernel_rfl) (by kernel_rfl) (by kernel_rfl) (by kernel_rfl) (fun _ _ _ h => absurd h.1 (by simp)) T5.out.bel (by rfl) ?_ ?_
              rotate_left
              · intro W hSw
                go_simp
                try with_reducible rfl
              simp only [Act.put, List.setIfInBounds_toArray, List.set_cons_zero, List.set_cons_succ, List.getElem_toArray, List.getElem_cons_zero, List.getElem_cons_succ]
              refine anyT_one' (i := 11) (by kernel_rfl) rfl (by rfl) (fun K hK => ?_)
              obtain ⟨⟨c0, c1⟩, c2, c3⟩ := T5.out.cells
              unfold Oper.wp
              go_simp
              refine hK _ _ (fun h => absurd rfl h) ?_
              refine anyT_done (by kernel_rfl) ?_ _
              exact ⟨rfl, (.slice (some ⟨g17, 0, none⟩) 0 0, v20, .slice (some ⟨g22, 0, none⟩) 1 1, .slice va (ts.length + 1) vc, g5), rfl, T5.out.fin⟩
          · unfold Oper.wp
            go_simp
            have T3 := Lib.hid T2.out.new
            clear T2
            generalize W2.alloc (.cells #[.slice none 0 0, .slice none 0 0] 45) = W3 at *
            generalize W2.heap.size = g5 at *
            refine hK _ _ (fun _ => T3.out.bel) ?_
            clear hK K
            refine anyT_one' (i := 5) (by kernel_rfl) rfl (by rfl) (fun K hK => ?_)
            refine wp_append_at (.tmp 17) (.tmp 19) 43 (by rfl) w2.heap.size 62 i0 _ 4 32 Try.underlying43 hi0 hi1 hi2 hi3 rfl (by omega) (.slice (some ⟨g17, 0, none⟩) 0 0) 0 [] (by rfl) (T3.out.row _ rfl) TA ts.length tc (ts.flatMap tiC) (by rfl) HNIL.out (len_tis ts) (HRT.out _ T3.out.bel) (one_tis ts) (by unfold maxLen; omega) (by omega) T3.out.bel.size ?_
            intro v20 W4 ho hg hl
            rw [Nat.zero_add, List.nil_append] at ho
            have T4 := Lib.hid (T3.out.app ho hg hl)
            clear ho hg hl T3
            refine hK _ _ (fun _ => T4.out.bel) ?_
            clear hK K
            simp only [Act.put, List.setIfInBounds_toArray, List.set_cons_zero, List.set_cons_succ, List.getElem_toArray, List.getElem_cons_zero, List.getElem_cons_succ]
            refine anyT_one' (i := 8) (by kernel_rfl) rfl (by rfl) (fun K hK => ?_)
            refine wp_append_at (.tmp 20) (.tmp 22) 43 (by rfl) w2.heap.size 62 i0 _ 4 32 Try.underlying43 hi0 hi1 hi2 hi3 rfl (by omega) v20 ts.length (ts.flatMap tiC) (by rfl) (T4.out.row _ rfl) (some ⟨g22, 0, none⟩) 1 1 (tiC u) (by rfl) (fun e => by cases e) rfl T4.out.rowq (one_ti u) (by unfold maxLen; omega) (by omega) T4.out.bel.size ?_
            intro v23 W5 ho hg hl
            obtain ⟨va, vc, rfl⟩ := own_slice ho
            have T5 := Lib.hid (T4.out.app ho hg hl)
            clear ho hg hl T4
            refine hK _ _ (fun _ => T5.out.bel) ?_
            clear hK K
            simp only [Act.put, List.setIfInBounds_toArray, List.set_cons_zero, List.set_cons_succ, List.getElem_toArray, List.getElem_cons_zero, List.getElem_cons_succ]
            refine anyT_take (i := 9) 9 [] (v := ?_) rfl (by kernel_rfl) (by kernel_rfl) (by kernel_rfl) (by kernel_rfl) (fun _ _ _ h => absurd h.1 (by simp)) T5.out.bel (by rfl) ?_ ?_
            rotate_left
            · intro W hSw
              go_simp
              try with_reducible rfl
            simp only [Act.put, List.setIfInBounds_toArray, List.set_cons_zero, List.set_cons_succ, List.getElem_toArray, List.getElem_cons_zero, List.getElem_cons_succ]
            refine anyT_one' (i := 11) (by kernel_rfl) rfl (by rfl) (fun K hK => ?_)
            obtain ⟨⟨c0, c1⟩, c2, c3⟩ := T5.out.cells
            unfold Oper.wp
            go_simp
            refine hK _ _ (fun h => absurd rfl h) ?_
            refine anyT_done (by kernel_rfl) ?_ _
            exact ⟨rfl, (.slice (some ⟨g17, 0, none⟩) 0 0, v20, .slice (some ⟨g22, 0, none⟩) 1 1, .slice va (ts.length + 1) vc, g5), rfl, T5.out.fin⟩
        · unfold Oper.wp
          go_simp
          have T2 := Lib.hid T1.out.new
          clear T1
          generalize W1.alloc (.cells #[.slice none 0 0, .slice none 0 0] 45) = W2 at *
          generalize W1.heap.size = g5 at *
          refine hK _ _ (fun _ => T2.out.bel) ?_
          clear hK K
          refine anyT_one' (i := 2) (by kernel_rfl) rfl (by rfl) (fun K hK => ?_)
          unfold Oper.wp
          go_simp
          have T3 := Lib.hid T2.out.lit
          clear T2
          generalize W2.alloc (.cells #[] 62) = W3 at *
          generalize W2.heap.size = g17 at *
          refine hK _ _ (fun _ => T3.out.bel) ?_
          clear hK K
          refine anyT_one' (i := 5) (by kernel_rfl) rfl (by rfl) (fun K hK => ?_)
          refine wp_append_at (.tmp 17) (.tmp 19) 43 (by rfl) w2.heap.size 62 i0 _ 4 32 Try.underlying43 hi0 hi1 hi2 hi3 rfl (by omega) (.slice (some ⟨g17, 0, none⟩) 0 0) 0 [] (by rfl) (T3.out.row _ rfl) TA ts.length tc (ts.flatMap tiC) (by rfl) HNIL.out (len_tis ts) (HRT.out _ T3.out.bel) (one_tis ts) (by unfold maxLen; omega) (by omega) T3.out.bel.size ?_
          intro v20 W4 ho hg hl
          rw [Nat.zero_add, List.nil_append] at ho
          have T4 := Lib.hid (T3.out.app ho hg hl)
          clear ho hg hl T3
          refine hK _ _ (fun _ => T4.out.bel) ?_
          clear hK K
          simp only [Act.put, List.setIfInBounds_toArray, List.set_cons_zero, List.set_cons_succ, List.getElem_toArray, List.getElem_cons_zero, List.getElem_cons_succ]
          refine anyT_one' (i := 8) (by kernel_rfl) rfl (by rfl) (fun K hK => ?_)
          refine wp_append_at (.tmp 20) (.tmp 22) 43 (by rfl) w2.heap.size 62 i0 _ 4 32 Try.underlying43 hi0 hi1 hi2 hi3 rfl (by omega) v20 ts.length (ts.flatMap tiC) (by rfl) (T4.out.row _ rfl) (some ⟨g22, 0, none⟩) 1 1 (tiC u) (by rfl) (fun e => by cases e) rfl T4.out.rowq (one_ti u) (by unfold maxLen; omega) (by omega) T4.out.bel.size ?_
          intro v23 W5 ho hg hl
          obtain ⟨va, vc, rfl⟩ := own_slice ho
          have T5 := Lib.hid (T4.out.app ho hg hl)
          clear ho hg hl T4
          refine hK _ _ (fun _ => T5.out.bel) ?_
          clear hK K
          simp only [Act.put, List.setIfInBounds_toArray, List.set_cons_zero, List.set_cons_succ, List.getElem_toArray, List.getElem_cons_zero, List.getElem_cons_succ]
          refine anyT_take (i := 9) 9 [] (v := ?_) rfl (by kernel_rfl) (by kernel_rfl) (by kernel_rfl) (by kernel_rfl) (fun _ _ _ h => absurd h.1 (by simp)) T5.out.bel (by rfl) ?_ ?_
          rotate_left
          · intro W hSw
            go_simp
            try with_reducible rfl
          simp only [Act.put, List.setIfInBounds_toArray, List.set_cons_zero, List.set_cons_succ, List.getElem_toArray, List.getElem_cons_zero, List.getElem_cons_succ]
          refine anyT_one' (i := 11) (by kernel_rfl) rfl (by rfl) (fun K hK => ?_)
          obtain ⟨⟨c0, c1⟩, c2, c3⟩ := T5.out.cells
          unfold Oper.wp
          go_simp
          refine hK _ _ (fun h => absurd rfl h) ?_
          refine anyT_done (by kernel_rfl) ?_ _
          exact ⟨rfl, (.slice (some ⟨g17, 0, none⟩) 0 0, v20, .slice (some ⟨g22, 0, none⟩) 1 1, .slice va (ts.length + 1) vc, g5), rfl, T5.out.fin⟩
      · unfold Oper.wp
        go_simp
        have T1 := Lib.hid T0.out.new
        clear T0
        generalize W0.alloc (.cells #[.slice none 0 0, .slice none 0 0] 45) = W1 at *
        generalize W0.heap.size = g5 at *
        refine hK _ _ (fun _ => T1.out.bel) ?_
        clear hK K
        refine anyT_ready (rs := [2, 7]) (by kernel_rfl) (by simp) (AllT.cons rfl (by rfl) (fun K hK => ?_) (AllT.cons rfl (by rfl) (fun K hK => ?_) (AllT.nil)))
        · unfold Oper.wp
          go_simp
          have T2 := Lib.hid T1.out.lit
          clear T1
          generalize W1.alloc (.cells #[] 62) = W2 at *
          generalize W1.heap.size = g17 at *
          refine hK _ _ (fun _ => T2.out.bel) ?_
          clear hK K
          refine anyT_ready (rs := [5, 7]) (by kernel_rfl) (by simp) (AllT.cons rfl (by rfl) (fun K hK => ?_) (AllT.cons rfl (by rfl) (fun K hK => ?_) (AllT.nil)))
          · refine wp_append_at (.tmp 17) (.tmp 19) 43 (by rfl) w2.heap.size 62 i0 _ 4 32 Try.underlying43 hi0 hi1 hi2 hi3 rfl (by omega) (.slice (some ⟨g17, 0, none⟩) 0 0) 0 [] (by rfl) (T2.out.row _ rfl) TA ts.length tc (ts.flatMap tiC) (by rfl) HNIL.out (len_tis ts) (HRT.out _ T2.out.bel) (one_tis ts) (by unfold maxLen; omega) (by omega) T2.out.bel.size ?_
            intro v20 W3 ho hg hl
            rw [Nat.zero_add, List.nil_append] at ho
            have T3 := Lib.hid (T2.out.app ho hg hl)
            clear ho hg hl T2
            refine hK _ _ (fun _ => T3.out.bel) ?_
            clear hK K
            simp only [Act.put, List.setIfInBounds_toArray, List.set_cons_zero, List.set_cons_succ, List.getElem_toArray, List.getElem_cons_zero, List.getElem_cons_succ]
            refine anyT_one' (i := 7) (by kernel_rfl) rfl (by rfl) (fun K hK => ?_)
            unfold Oper.wp
            go_simp
            have T4 := Lib.hid T3.out.tie
            clear T3
            generalize W3.alloc (.cells #[.int .i64 u.kind, .int .i64 u.fr, .int .i64 u.to, .int .i64 u.time] 62) = W4 at *
            generalize W3.heap.size = g22 at *
            refine hK _ _ (fun _ => T4.out.bel) ?_
            clear hK K
            refine anyT_one' (i := 8) (by kernel_rfl) rfl (by rfl) (fun K hK => ?_)
            refine wp_append_at (.tmp 20) (.tmp 22) 43 (by rfl) w2.heap.size 62 i0 _ 4 32 Try.underlying43 hi0 hi1 hi2 hi3 rfl (by omega) v20 ts.length (ts.flatMap tiC) (by rfl) (T4.out.row _ rfl) (some ⟨g22, 0, none⟩) 1 1 (tiC u) (by rfl) (fun e => by cases e) rfl T4.out.rowq (one_ti u) (by unfold maxLen; omega) (by omega) T4.out.bel.size ?_
            intro v23 W5 ho hg hl
            obtain ⟨va, vc, rfl⟩ := own_slice ho
            have T5 := Lib.hid (T4.out.app ho hg hl)
            clear ho hg hl T4
            refine hK _ _ (fun _ => T5.out.bel) ?_
            clear hK K
            simp only [Act.put, List.setIfInBounds_toArray, List.set_cons_zero, List.set_cons_succ, List.getElem_toArray, List.getElem_cons_zero, List.getElem_cons_succ]
            refine anyT_take (i := 9) 9 [] (v := ?_) rfl (by kernel_rfl) (by kernel_rfl) (by kernel_rfl) (by kernel_rfl) (fun _ _ _ h => absurd h.1 (by simp)) T5.out.bel (by rfl) ?_ ?_
            rotate_left
            · intro W hSw
              go_simp
              try with_reducible rfl
            simp only [Act.put, List.setIfInBounds_toArray, List.set_cons_zero, List.set_cons_succ, List.getElem_toArray, List.getElem_cons_zero, List.getElem_cons_succ]
            refine anyT_one' (i := 11) (by kernel_rfl) rfl (by rfl) (fun K hK => ?_)
            obtain ⟨⟨c0, c1⟩, c2, c3⟩ := T5.out.cells
            unfold Oper.wp
            go_simp
            refine hK _ _ (fun h => absurd rfl h) ?_
            refine anyT_done (by kernel_rfl) ?_ _
            exact ⟨rfl, (.slice (some ⟨g17, 0, none⟩) 0 0, v20, .slice (some ⟨g22, 0, none⟩) 1 1, .slice va (ts.length + 1) vc, g5), rfl, T5.out.fin⟩
          · unfold Oper.wp
            go_simp
            have T3 := Lib.hid T2.out.tie
            clear T2
            generalize W2.alloc (.cells #[.int .i64 u.kind, .int .i64 u.fr, .int .i64 u.to, .int .i64 u.time] 62) = W3 at *
            generalize W2.heap.size = g22 at *
            refine hK _ _ (fun _ => T3.out.bel) ?_
            clear hK K
            refine anyT_one' (i := 5) (by kernel_rfl) rfl (by rfl) (fun K hK => ?_)
            refine wp_append_at (.tmp 17) (.tmp 19) 43 (by rfl) w2.heap.size 62 i0 _ 4 32 Try.underlying43 hi0 hi1 hi2 hi3 rfl (by omega) (.slice (some ⟨g17, 0, none⟩) 0 0) 0 [] (by rfl) (T3.out.row _ rfl) TA ts.length tc (ts.flatMap tiC) (by rfl) HNIL.out (len_tis ts) (HRT.out _ T3.out.bel) (one_tis ts) (by unfold maxLen; omega) (by omega) T3.out.bel.size ?_
            intro v20 W4 ho hg hl
            rw [Nat.zero_add, List.nil_append] at ho
            have T4 := Lib.hid (T3.out.app ho hg hl)
            clear ho hg hl T3
            refine hK _ _ (fun _ => T4.out.bel) ?_
            clear hK K
            simp only [Act.put, List.setIfInBounds_toArray, List.set_cons_zero, List.set_cons_succ, List.getElem_toArray, List.getElem_cons_zero, List.getElem_cons_succ]
            refine anyT_one' (i := 8) (by kernel_rfl) rfl (by rfl) (fun K hK => ?_)
            refine wp_append_at (.tmp 20) (.tmp 22) 43 (by rfl) w2.heap.size 62 i0 _ 4 32 Try.underlying43 hi0 hi1 hi2 hi3 rfl (by omega) v20 ts.length (ts.flatMap tiC) (by rfl) (T4.out.row _ rfl) (some ⟨g22, 0, none⟩) 1 1 (tiC u) (by rfl) (fun e => by cases e) rfl T4.out.rowq (one_ti u) (by unfold maxLen; omega) (by omega) T4.out.bel.size ?_
            intro v23 W5 ho hg hl
            obtain ⟨va, vc, rfl⟩ := own_slice ho
            have T5 := Lib.hid (T4.out.app ho hg hl)
            clear ho hg hl T4
            refine hK _ _ (fun _ => T5.out.bel) ?_
            clear hK K
            simp only [Act.put, List.setIfInBounds_toArray, List.set_cons_zero, List.set_cons_succ, List.getElem_toArray, List.getElem_cons_zero, List.getElem_cons_succ]
            refine anyT_take (i := 9) 9 [] (v := ?_) rfl (by kernel_rfl) (by kernel_rfl) (by kernel_rfl) (by kernel_rfl) (fun _ _ _ h => absurd h.1 (by simp)) T5.out.bel (by rfl) ?_ ?_
            rotate_left
            · intro W hSw
              go_simp
              try with_reducible rfl
            simp only [Act.put, List.setIfInBounds_toArray, List.set_cons_zero, List.set_cons_succ, List.getElem_toArray, List.getElem_cons_zero, List.getElem_cons_succ]
            refine anyT_one' (i := 11) (by kernel_rfl) rfl (by rfl) (fun K hK => ?_)
            obtain ⟨⟨c0, c1⟩, c2, c3⟩ := T5.out.cells
            unfold Oper.wp
            go_simp
            refine hK _ _ (fun h => absurd rfl h) ?_
            refine anyT_done (by kernel_rfl) ?_ _
            exact ⟨rfl, (.slice (some ⟨g17, 0, none⟩) 0 0, v20, .slice (some ⟨g22, 0, none⟩) 1 1, .slice va (ts.length + 1) vc, g5), rfl, T5.out.fin⟩
        · unfold Oper.wp
          go_simp
          have T2 := Lib.hid T1.out.tie
          clear T1
          generalize W1.alloc (.cells #[.int .i64 u.kind, .int .i64 u.fr, .int .i64 u.to, .int .i64 u.time] 62) = W2 at *
          generalize W1.heap.size = g22 at *
          refine hK _ _ (fun _ => T2.out.bel) ?_
          clear hK K
          refine anyT_one' (i := 2) (by kernel_rfl) rfl (by rfl) (fun K hK => ?_)
          unfold Oper.wp
          go_simp
          have T3 := Lib.hid T2.out.lit
          clear T2
          generalize W2.alloc (.cells #[] 62) = W3 at *
          generalize W2.heap.size = g17 at *
          refine hK _ _ (fun _ => T3.out.bel) ?_
          clear hK K
          refine anyT_one' (i := 5) (by kernel_rfl) rfl (by rfl) (fun K hK => ?_)
          refine wp_append_at (.tmp 17) (.tmp 19) 43 (by rfl) w2.heap.size 62 i0 _ 4 32 Try.underlying43 hi0 hi1 hi2 hi3 rfl (by omega) (.slice (some ⟨g17, 0, none⟩) 0 0) 0 [] (by rfl) (T3.out.row _ rfl) TA ts.length tc (ts.flatMap tiC) (by rfl) HNIL.out (len_tis ts) (HRT.out _ T3.out.bel) (one_tis ts) (by unfold maxLen; omega) (by omega) T3.out.bel.size ?_
          intro v20 W4 ho hg hl
          rw [Nat.zero_add, List.nil_append] at ho
          have T4 := Lib.hid (T3.out.app ho hg hl)
          clear ho hg hl T3
          refine hK _ _ (fun _ => T4.out.bel) ?_
          clear hK K
          simp only [Act.put, List.setIfInBounds_toArray, List.set_cons_zero, List.set_cons_succ, List.getElem_toArray, List.getElem_cons_zero, List.getElem_cons_succ]
          refine anyT_one' (i := 8) (by kernel_rfl) rfl (by rfl) (fun K hK => ?_)
          refine wp_append_at (.tmp 20) (.tmp 22) 43 (by rfl) w2.heap.size 62 i0 _ 4 32 Try.underlying43 hi0 hi1 hi2 hi3 rfl (by omega) v20 ts.length (ts.flatMap tiC) (by rfl) (T4.out.row _ rfl) (some ⟨g22, 0, none⟩) 1 1 (tiC u) (by rfl) (fun e => by cases e) rfl T4.out.rowq (one_ti u) (by unfold maxLen; omega) (by omega) T4.out.bel.size ?_
          intro v23 W5 ho hg hl
          obtain ⟨va, vc, rfl⟩ := own_slice ho
          have T5 := Lib.hid (T4.out.app ho hg hl)
          clear ho hg hl T4
          refine hK _ _ (fun _ => T5.out.bel) ?_
          clear hK K
          simp only [Act.put, List.setIfInBounds_toArray, List.set_cons_zero, List.set_cons_succ, List.getElem_toArray, List.getElem_cons_zero, List.getElem_cons_succ]
          refine anyT_take (i := 9) 9 [] (v := ?_) rfl (by kernel_rfl) (by kernel_rfl) (by kernel_rfl) (by kernel_rfl) (fun _ _ _ h => absurd h.1 (by simp)) T5.out.bel (by rfl) ?_ ?_
          rotate_left
          · intro W hSw
            go_simp
            try with_reducible rfl
          simp only [Act.put, List.setIfInBounds_toArray, List.set_cons_zero, List.set_cons_succ, List.getElem_toArray, List.getElem_cons_zero, List.getElem_cons_succ]
          refine anyT_one' (i := 11) (by kernel_rfl) rfl (by rfl) (fun K hK => ?_)
          obtain ⟨⟨c0, c1⟩, c2, c3⟩ := T5.out.cells
          unfold Oper.wp
          go_simp
          refine hK _ _ (fun h => absurd rfl h) ?_
          refine anyT_done (by kernel_rfl) ?_ _
          exact ⟨rfl, (.slice (some ⟨g17, 0, none⟩) 0 0, v20, .slice (some ⟨g22, 0, none⟩) 1 1, .slice va (ts.length + 1) vc, g5), rfl, T5.out.fin⟩
    · rintro ⟨v17, v20, v22, v23, g⟩ w3 hfin
      obtain ⟨va, vc, rfl⟩ : ∃ va vc, v23 = .slice va (ts ++ [u]).length vc := own_slice hfin.row
      have G3 := Lib.hid (GX.mk (X2.out.call hfin.bel) hfin.box (HF.out.below (X2.out.call hfin.bel).l) ⟨(HF.out.below (X2.out.call hfin.bel).l).e, Row.of_own hfin.row⟩ : GX w EA TA va ec tc vc es ts (ts ++ [u]) u g w3)
      simp only [Act.put, List.setIfInBounds_toArray, List.set_cons_zero, List.set_cons_succ]
      clear hfin X2 HF HNIL HCE HRT hsm
      have HLA := Lib.hid (show SmF es ts from ⟨by omega, by omega⟩)
      have HLB := Lib.hid (show SmF es (ts ++ [u]) from ⟨by omega, by rw [List.length_append, List.length_singleton]; omega⟩)
      have CM := matters_of w3 EA TA ec tc es ts G3.out.f HLA.out
      rw [mat_is] at CM
      have HMG := fun (W : World) (hW : GX w EA TA va ec tc vc es ts (ts ++ [u]) u g W) => matters_of W EA va ec vc es (ts ++ [u]) hW.h HLB.out
      simp only [mat_is] at HMG
      have HMO := Lib.hid (fun (x : Int) (hx : x ∈ (matL es ts).map fun j : Nat => (j : Int)) => show x ∈ (matL es (ts ++ [u])).map fun j : Nat => (j : Int) from by
        obtain ⟨j, hj, rfl⟩ := List.mem_map.1 hx
        exact List.mem_map.2 ⟨j, mat_more u hj, rfl⟩)
      have hl1 : ((matL es ts).map fun j : Nat => (j : Int)).length ≤ 21 := by rw [List.length_map]; have := mat_len es ts; omega
      have hl2 : ((matL es (ts ++ [u])).map fun j : Nat => (j : Int)).length ≤ 21 := by rw [List.length_map]; have := mat_len es (ts ++ [u]); omega
      have HCG := Lib.hid (fun (W : World) (hW : GX w EA TA va ec tc vc es ts (ts ++ [u]) u g W) => called_of W EA va ec vc es (ts ++ [u]) hW.h HLB.out)
      have HCF := Lib.hid (fun (W : World) (hW : GX w EA TA va ec tc vc es ts (ts ++ [u]) u g W) => called_of W EA TA ec tc es ts hW.f HLA.out)
      have HXG := Lib.hid (fun (W : World) (hW : GX w EA TA va ec tc vc es ts (ts ++ [u]) u g W) => excluded_of W EA va ec vc es (ts ++ [u]) hW.h HLB.out)
      have HXF := Lib.hid (fun (W : World) (hW : GX w EA TA va ec tc vc es ts (ts ++ [u]) u g W) => excluded_of W EA TA ec tc es ts hW.f HLA.out)
      have HCO := Lib.hid (fun (x : Int) (hx : x ∈ inL es.length (pendS es ts)) => show x ∈ inL es.length (pendS es (ts ++ [u])) from inL_more (fun i => pend_more u) hx)
      have hc1 := inL_len es.length (pendS es ts)
      have hc2 := inL_len es.length (pendS es (ts ++ [u]))
      have hx0 : (inL es.length (exclS es ts)).length ≤ (inL es.length (exclS es (ts ++ [u]))).length := inL_le (fun i => excl_more u)
      have hx1 := inL_len es.length (exclS es (ts ++ [u]))
      have hul : (ts ++ [u]).length ≤ 151 := by rw [List.length_append, List.length_singleton]; omega
      generalize ts ++ [u] = us at *
      generalize ((matL es ts).map fun j : Nat => (j : Int)) = M1 at *
      generalize ((matL es us).map fun j : Nat => (j : Int)) = M2 at *
      generalize inL es.length (pendS es ts) = C1 at *
      generalize inL es.length (pendS es us) = C2 at *
      generalize inL es.length (exclS es ts) = E1 at *
      generalize inL es.length (exclS es us) = E2 at *
      have HMH := Lib.hid HMG
      have HC := Lib.hid CM
      obtain ⟨⟨x0, x1⟩, x2, x3⟩ := G3.out.c
      clear HMG CM HLA HLB
      go_wp2_with fail
      refine HC.out.mono ?_
      rintro e w4 ⟨v, rfl, ho, hb⟩
      obtain ⟨ma, mc, rfl⟩ := own_slice ho
      have G4 := Lib.hid (And.intro (G3.out.call hb) (Row.of_own ho))
      clear ho hb HC G3 x0 x1 x2 x3
      go_wp2_with fail
      go_loopw [28] (fun i wr => ∃ k : Nat, k ≤ M1.length ∧ i = .int .i64 k ∧ Hid (GX w EA TA va ec tc vc es ts us u g wr ∧ Row wr ma (M1.map (Value.int .i64)))) (fun i _ => M1.length - (intOf i).toNat)
      case atStart => exact ⟨0, Nat.zero_le _, rfl, G4⟩
      case round =>
        clear G4
        obtain ⟨k, hk, rfl, HK⟩ := hrel
        by_cases hlt : k < M1.length
        · have hk0 : (0 : Int) ≤ (k : Int) := Int.natCast_nonneg _
          have hk1 : (k : Int) < (M1.length : Int) := by omega
          obtain ⟨wo, rfl⟩ : ∃ wo, wo = wr := ⟨wr, rfl⟩
          obtain ⟨b1, off1, rfl, hb1, hc⟩ := row_at HK.out.2 hlt
          have HX := Lib.hid (HMO.out _ (Go.Proofs.Ytaagpnepkjkfoaa.B.mem_at hlt))
          generalize M1[k]! = y at *
          have HCM := Lib.hid (HMH.out _ HK.out.1)
          obtain ⟨⟨x0, x1⟩, x2, x3⟩ := HK.out.1.c
          go_wp2_with fail
          refine HCM.out.mono ?_
          rintro e w5 ⟨v, rfl, ho, hb⟩
          obtain ⟨qa, qc, rfl⟩ := own_slice ho
          have H5 := Lib.hid (And.intro (HK.out.1.call hb) (HK.out.2.below (Nat.le_refl _) hb))
          have HFW := Lib.hid (has_few w5 qa qc M2 y (Row.of_own ho) (by omega) HX.out)
          clear ho hb HCM HK hc x0 x1 x2 x3
          go_wp2_with fail
          refine HFW.out.mono ?_
          rintro e w6 ⟨rfl, rfl⟩
          clear HFW
          go_wp2_with fail
          go_roundw
          case rel => exact ⟨k + 1, hlt, by go_num, H5⟩
          case measure => simp [intOf]; omega
        · obtain rfl : k = M1.length := by omega
          have HCM := Lib.hid (HCF.out _ HK.out.1)
          obtain ⟨⟨x0, x1⟩, x2, x3⟩ := HK.out.1.c
          go_wp2_with fail
          refine HCM.out.mono ?_
          rintro e w5 ⟨v, rfl, ho, hb⟩
          obtain ⟨ca, cc, rfl⟩ := own_slice ho
          have G5 := Lib.hid (And.intro (HK.out.1.call hb) (Row.of_own ho))
          clear ho hb HCM HK x0 x1 x2 x3
          go_wp2_with fail
          go_loopw [42] (fun i wr => ∃ k : Nat, k ≤ C1.length ∧ i = .int .i64 k ∧ Hid (GX w EA TA va ec tc vc es ts us u g wr ∧ Row wr ca (C1.map (Value.int .i64)))) (fun i _ => C1.length - (intOf i).toNat)
          case atStart => exact ⟨0, Nat.zero_le _, rfl, G5⟩
          case round =>
            clear G5
            obtain ⟨k, hk, rfl, HK⟩ := hrel
            by_cases hlt : k < C1.length
            · have hk0 : (0 : Int) ≤ (k : Int) := Int.natCast_nonneg _
              have hk1 : (k : Int) < (C1.length : Int) := by omega
              obtain ⟨wo, rfl⟩ : ∃ wo, wo = wr := ⟨wr, rfl⟩
              obtain ⟨b1, off1, rfl, hb1, hc⟩ := row_at HK.out.2 hlt
              have HX := Lib.hid (HCO.out _ (Go.Proofs.Ytaagpnepkjkfoaa.B.mem_at hlt))
              generalize C1[k]! = y at *
              have HCM := Lib.hid (HCG.out _ HK.out.1)
              obtain ⟨⟨x0, x1⟩, x2, x3⟩ := HK.out.1.c
              go_wp2_with fail
              refine HCM.out.mono ?_
              rintro e w5 ⟨v, rfl, ho, hb⟩
              obtain ⟨qa, qc, rfl⟩ := own_slice ho
              have H5 := Lib.hid (And.intro (HK.out.1.call hb) (HK.out.2.below (Nat.le_refl _) hb))
              have HFW := Lib.hid (has_few w5 qa qc C2 y (Row.of_own ho) (by omega) HX.out)
              clear ho hb HCM HK hc x0 x1 x2 x3
              go_wp2_with fail
              refine HFW.out.mono ?_
              rintro e w6 ⟨rfl, rfl⟩
              clear HFW
              go_wp2_with fail
              go_roundw
              case rel => exact ⟨k + 1, hlt, by go_num, H5⟩
              case measure => simp [intOf]; omega
            · obtain rfl : k = C1.length := by omega
              have HKd := Lib.hid (HK.out.1.call (Below.refl wr.heap.size wr).drew)
              have hx2 : (E1.length : Int) ≤ (E2.length : Int) := by omega
              clear HK HCF HCG HCO HMO HMH
              go_wp2_with fail
              refine wp_region_any (by kernel_rfl) ?_
              refine any_of_T (S := GX w EA TA va ec tc vc es ts us u g) (z := 7) _ _ _ _ ?_
              change wpAnyT _ _ _ _ _ _ _ _ _ wr.drew
              refine anyT_take (i := 0) 0 [] (v := ?_) rfl (by kernel_rfl) (by kernel_rfl) (by kernel_rfl) (by kernel_rfl) (fun _ _ _ h => h) HKd.out (by rfl) ?_ ?_
              rotate_left
              · intro W hSw
                obtain ⟨⟨q0, q1⟩, q2, q3⟩ := hSw.c
                go_simp
                try with_reducible rfl
              simp only [Act.put, List.setIfInBounds_toArray, List.set_cons_zero, List.set_cons_succ, List.getElem_toArray, List.getElem_cons_zero]
              refine anyT_take (i := 3) 3 [] (v := ?_) rfl (by kernel_rfl) (by kernel_rfl) (by kernel_rfl) (by kernel_rfl) (fun _ _ _ h => h) HKd.out (by rfl) ?_ ?_
              rotate_left
              · intro W hSw
                obtain ⟨⟨q0, q1⟩, q2, q3⟩ := hSw.c
                go_simp
                try with_reducible rfl
              simp only [Act.put, List.setIfInBounds_toArray, List.set_cons_zero, List.set_cons_succ, List.getElem_toArray, List.getElem_cons_zero, List.getElem_cons_succ]
              refine anyT_one' (i := 1) (by kernel_rfl) rfl (by rfl) (fun K1 hK1 => ?_)
              have HK1 := Lib.hid hK1
              clear hK1
              unfold Oper.wp
              go_simp
              refine (HXG.out _ HKd.out).mono ?_
              rintro e w8 ⟨v, rfl, ho, hb⟩
              obtain ⟨ya1, yc1, rfl⟩ := own_slice ho
              have H8 := Lib.hid (HKd.out.call hb)
              clear ho hb HKd HXG
              refine HK1.out _ _ (fun _ => H8.out) ?_
              clear HK1
              refine anyT_take (i := 2) 2 [] (v := ?_) rfl (by kernel_rfl) (by kernel_rfl) (by kernel_rfl) (by kernel_rfl) (fun _ _ _ h => h) H8.out (by rfl) ?_ ?_
              rotate_left
              · intro W hSw
                clear hSw
                go_simp
                try with_reducible rfl
              simp only [Act.put, List.setIfInBounds_toArray, List.set_cons_zero, List.set_cons_succ, List.getElem_toArray, List.getElem_cons_zero, List.getElem_cons_succ]
              refine anyT_one' (i := 4) (by kernel_rfl) rfl (by rfl) (fun K4 hK4 => ?_)
              have HK4 := Lib.hid hK4
              clear hK4
              unfold Oper.wp
              go_simp
              refine (HXF.out _ H8.out).mono ?_
              rintro e w9 ⟨v, rfl, ho, hb⟩
              obtain ⟨ya4, yc4, rfl⟩ := own_slice ho
              have H9 := Lib.hid (H8.out.call hb)
              clear ho hb H8 HXF
              refine HK4.out _ _ (fun _ => H9.out) ?_
              clear HK4
              refine anyT_take (i := 5) 5 [] (v := ?_) rfl (by kernel_rfl) (by kernel_rfl) (by kernel_rfl) (by kernel_rfl) (fun _ _ _ h => h) H9.out (by rfl) ?_ ?_
              rotate_left
              · intro W hSw
                clear hSw
                go_simp
                try with_reducible rfl
              simp only [Act.put, List.setIfInBounds_toArray, List.set_cons_zero, List.set_cons_succ, List.getElem_toArray, List.getElem_cons_zero, List.getElem_cons_succ]
              refine anyT_take (i := 6) 6 [] (v := ?_) rfl (by kernel_rfl) (by kernel_rfl) (by kernel_rfl) (by kernel_rfl) (fun _ _ _ h => h) H9.out (by rfl) ?_ ?_
              rotate_left
              · intro W hSw
                clear hSw
                go_simp
                try with_reducible rfl
              simp only [Act.put, List.setIfInBounds_toArray, List.set_cons_zero, List.set_cons_succ, List.getElem_toArray, List.getElem_cons_zero, List.getElem_cons_succ]
              refine anyT_one' (i := 7) (by kernel_rfl) rfl (by rfl) (fun K7 hK7 => ?_)
              have HK7 := Lib.hid hK7
              clear hK7
              unfold Oper.wp
              go_simp
              refine HK7.out _ _ (fun _ => H9.out) ?_
              clear HK7
              refine anyT_done (by kernel_rfl) ?_ _
              go_wp2_with fail
              go_ret
              exact ⟨rfl, H9.out.b.l⟩
end Go.Proofs.Ytaagpnepkjkfoaa.N7
