/-
  Contracts of slices.Backward's closure and of graph.firsts, at groups. Contracts of slices.Backward's closure and of graph.firsts, at groups. Contract of the looker's gather: its four maps tell where each name, and each relation without its time, stands first.
-/
import Derived.Test.YtahhhhacoigpmaaScab
import Derived.Test.YtahhhhacoigpmaaScai
namespace Go.Proofs.Ytahhhhacoigpmaa
open Go.RowKit Go.Shelf
attribute [local go_sem] Oper.semAt_some
set_option maxRecDepth 100000 in
set_option maxHeartbeats 2000000 in
theorem back1_rl (n : Nat) (hn : 1 ≤ n) (lp Bs n₀ m c : Nat) (A : Option Addr) (l : List Rl) (hl : l.length ≤ 1000000) (hB : Bs < n₀) (hBm : Bs ≠ m) (J Jx : List (Fin l.length) → World → Prop)
    (hY : ∀ pre x W, J pre W → pre.length < l.length → YieldAt Fence.wide (n - 1) Try.prog lp #[.int .i64 (x.val : Int), .agg #[.int .i64 l[x].kind, .string l[x].src, .string l[x].dst, .int .i64 l[x].time]] W fun e W' =>
      (e = .returned (.bool true) ∧ J (pre ++ [x]) W' ∧ KpM n₀ m W W') ∨ (e = .returned (.bool false) ∧ Jx (pre ++ [x]) W'))
    (W : World) (hBs : W.cell? ⟨Bs, 0, none⟩ = some (.slice A l.length c))
    (hc : ∀ (i : Nat) (h : i < l.length), ∃ b off, A = some ⟨b, off, none⟩ ∧ b < n₀ ∧ b ≠ m ∧ W.cell? ⟨b, off + i * 4, none⟩ = some (.int .i64 l[i].kind) ∧ W.cell? ⟨b, off + i * 4 + 1, none⟩ = some (.string l[i].src) ∧ W.cell? ⟨b, off + i * 4 + 2, none⟩ = some (.string l[i].dst) ∧ W.cell? ⟨b, off + i * 4 + 3, none⟩ = some (.int .i64 l[i].time)) (h0 : J [] W) :
    CallsIn Fence.wide n Try.prog 87 #[.func (.yield lp) #[] #[], .pointer (some ⟨Bs, 0, none⟩)] W fun e W' => (∃ v, e = .returned v) ∧
      ((∃ ys, ys = (List.finRange l.length).reverse ∧ J ys W') ∨ (∃ pre, True ∧ Jx pre W')) := by
  refine callsIn_of_wp Try.func87 rfl trivial ?_ rfl
  simp only [Try.ntmps87, List.size_toArray, List.length_cons, List.length_nil, Nat.reduceAdd, Nat.reduceSub, Array.replicate_succ, Array.replicate_zero, List.push_toArray, List.append_toArray, List.nil_append, List.cons_append]
  gi_wp2
  gi_loopw [3] (fun i wr => ∃ (q : Nat) (z : Int), q ≤ l.length ∧ z = (q : Int) - 1 ∧ i = .int .i64 z ∧ J ((List.finRange l.length).drop q).reverse wr ∧ KpM n₀ m W wr)
    (fun i _ => (intOf i + 1).toNat)
  case atStart => exact ⟨l.length, _, Nat.le_refl _, rfl, rfl, by rw [List.drop_eq_nil_of_le (by simp)]; exact h0, fun _ _ _ => rfl⟩
  case round =>
    obtain ⟨q, z, hq, hz, rfl, hJs, hnx⟩ := hrel
    cases q with
    | zero =>
      obtain rfl : z = -1 := by omega
      clear hz
      gi_wp2
      go_end0
      exact ⟨⟨_, rfl⟩, .inl ⟨_, by rw [List.drop_zero], hJs⟩⟩
    | succ q =>
      obtain rfl : z = (q : Int) := by omega
      clear hz
      have hlt : q < l.length := hq
      obtain ⟨b, off, rfl, hb, hbm, c0, c1, c2, c3⟩ := hc q hlt
      rw [← hnx.cell (p := ⟨b, _, none⟩) hb hbm] at c0 c1 c2 c3
      have cB := hBs
      rw [← hnx.cell (p := ⟨Bs, _, none⟩) hB hBm] at cB
      obtain ⟨fn, tmps, assign, body, hy, hR⟩ := hY _ ⟨q, hlt⟩ wr hJs (by simp; omega)
      dsimp only [Fin.getElem_fin] at hy
      clear hc hBs
      gi_wp2
      refine hR.mono ?_
      rintro e W3 (⟨rfl, hJ3, hk3⟩ | ⟨rfl, hJx3⟩)
      · gi_wp2
        go_roundw
        case rel => exact ⟨q, _, by omega, rfl, by go_num, by rw [down_step hlt]; exact hJ3, hnx.trans hk3⟩
        case measure => simp [intOf]
      · gi_wp2
        refine bodyPost_ret (results_none rfl _ _ _) rfl ?_
        exact ⟨⟨_, rfl⟩, .inr ⟨_, trivial, hJx3⟩⟩
set_option maxHeartbeats 400000 in
theorem back_rl (n : Nat) (A : Option Addr) (len c : Nat) (w : World) :
    CallsIn Fence.wide n Try.prog 79 #[.slice A len c] w fun e w' => e = .returned (.func (.func 87) #[] #[.pointer (some ⟨w.heap.size, 0, none⟩)]) ∧ w' = w.alloc (.cells #[.slice A len c] 24) := by
  refine callsIn_of_wp Try.func79 rfl trivial ?_ rfl
  simp only [Try.ntmps79, List.size_toArray, List.length_cons, List.length_nil, Nat.reduceAdd, Nat.reduceSub, Array.replicate_succ, Array.replicate_zero, List.push_toArray, List.append_toArray, List.nil_append, List.cons_append]
  gi_wp2
  go_ret
  exact ⟨rfl, rfl⟩
set_option maxHeartbeats 400000 in
theorem key_rl (p : Rl) (w : World) : Calls Try.prog 58 #[.agg #[.int .i64 p.kind, .string p.src, .string p.dst, .int .i64 p.time]] w fun e w' => e = .returned (.agg #[.int .i64 p.kind, .string p.src, .string p.dst, .int .i64 0]) ∧ w' = (w.alloc (.cells #[.int .i64 p.kind, .string p.src, .string p.dst, .int .i64 0] 60)).alloc (.cells #[.int .i64 p.kind, .string p.src, .string p.dst, .int .i64 0] 60) := by
  go_enter Try.func58, Try.ntmps58
  go_wp2
  exact bodyPost_ret (v := .agg #[.int .i64 p.kind, .string p.src, .string p.dst, .int .i64 0]) (by simp [results, Try.results58, go_sem]) rfl ⟨rfl, rfl⟩
def firstsWrl (w : World) (A : Option Addr) (len c : Nat) : World :=
  (((w.alloc (.cells #[.func (.func 58) #[] #[]] 101)).alloc (.map #[] 0)).alloc (.cells #[.map (some (w.heap.size + 1))] 86)).alloc (.cells #[.slice A len c] 24)
set_option maxRecDepth 100000 in
set_option maxHeartbeats 2000000 in
theorem firsts_rl (A : Option Addr) (c : Nat) (l : List Rl) (w : World) (hr : Row w A (l.flatMap rlC)) (hl : l.length ≤ 1000000) (hs : ∀ p ∈ l, OkR p) :
    Calls Try.prog 57 #[.slice A l.length c, .func (.func 58) #[] #[]] w fun e w' =>
      ∃ b, e = .returned (.map (some b)) ∧ MapFn w' Try.prog 60 3 b l.length (firstOf (l.map fun p => rlit (rkey p))) ∧ Below w.heap.size w w' ∧ w.heap.size ≤ b := by
  refine (callsIn_wide (n := 6)).1 ?_
  have hmm := mkR
  refine callsIn_of_wp_marks Try.func57 rfl trivial ?_ rfl
  simp only [Try.ntmps57, List.size_toArray, List.length_cons, List.length_nil, Nat.reduceAdd, Nat.reduceSub, Array.replicate_succ, Array.replicate_zero, List.push_toArray, List.append_toArray, List.nil_append, List.cons_append]
  gi_wp2_with (refine ⟨trivial, ?_⟩; gi_at_call 79; refine (back_rl _ _ _ _ _).mono ?_; rintro e w' ⟨rfl, rfl⟩)
  obtain ⟨W0, hW0⟩ : ∃ W0, firstsWrl w A l.length c = W0 := ⟨_, rfl⟩
  have hz0 : W0.heap.size = w.heap.size + 4 := by rw [← hW0]; simp [firstsWrl]
  have hB0 : Below w.heap.size w W0 := by rw [← hW0]; exact ((((Below.refl _ w).alloc (Nat.le_refl _) _).alloc (by simp) _).alloc (by simp; omega) _).alloc (by simp; omega) _
  have hc0 : W0.cell? ⟨w.heap.size, 0, none⟩ = some (.func (.func 58) #[] #[]) := by
    rw [← hW0]; exact cell_old _ _ (by simp; omega) (cell_old _ _ (by simp; omega) (cell_old _ _ (by simp) (cell_new1 _ _ _)))
  have hc2 : W0.cell? ⟨w.heap.size + 2, 0, none⟩ = some (.map (some (w.heap.size + 1))) := by
    rw [← hW0]; refine cell_old _ _ (by simp) ?_; have := cell_new1 ((w.alloc (.cells #[.func (.func 58) #[] #[]] 101)).alloc (.map #[] 0)) (.map (some (w.heap.size + 1))) 86; rw [World.size_alloc, World.size_alloc] at this; exact this
  have hc3 : W0.cell? ⟨w.heap.size + 3, 0, none⟩ = some (.slice A l.length c) := by
    rw [← hW0]; have := cell_new1 (((w.alloc (.cells #[.func (.func 58) #[] #[]] 101)).alloc (.map #[] 0)).alloc (.cells #[.map (some (w.heap.size + 1))] 86)) (.slice A l.length c) 24; rw [World.size_alloc, World.size_alloc, World.size_alloc] at this; exact this
  have hm0 : MapFn W0 Try.prog 60 3 (w.heap.size + 1) 0 (fun _ => none) := by
    rw [← hW0]
    have := MapFn.made (w.alloc (.cells #[.func (.func 58) #[] #[]] 101)) Try.prog 60 3
    rw [World.size_alloc] at this
    exact this.below (Nat.le_refl _) (((Below.refl _ _).alloc (Nat.le_refl _) _).alloc (by simp) _)
  have hr0 := hr.below (Nat.le_refl _) hB0
  show Code.wpIn Fence.wide 6 _ _ _ _ (firstsWrl w A l.length c)
  rw [hW0]
  clear hW0 hmm
  refine wpIn_rangeFunc_ownH (α := Fin l.length) rfl (by omega) (gf := 87) (lb := #[.pointer (some ⟨w.heap.size + 3, 0, none⟩)]) rfl trivial (enters_of Try.func87 (by kernel_rfl) rfl)
    (encs := fun x => #[.int .i64 (x.val : Int), .agg #[.int .i64 l[x].kind, .string l[x].src, .string l[x].dst, .int .i64 l[x].time]]) (Kp := KpM (w.heap.size + 4) (w.heap.size + 1)) (S := fun ys => ys = (List.finRange l.length).reverse) (Sp := fun _ => True) (N := l.length) (w0 := W0)
    ?seq KpM.trans ?kb (Below.refl _ _) (fun _ => rfl)
    (FI 60 w (.func (.func 58) #[] #[]) (fun i : Fin l.length => rlit (rkey l[i]))) (fun _ _ _ => False) (FI.own hz0) (fun _ _ _ _ _ hs _ _ => hs) ⟨⟨hc0, hc2, hm0⟩, hB0, by omega⟩
    (fun x a' W => ∃ Bx, w.heap.size + 3 < Bx ∧ W.cell? ⟨Bx, 0, none⟩ = some (.int .i64 l[x].kind) ∧ W.cell? ⟨Bx, 1, none⟩ = some (.string l[x].src) ∧ W.cell? ⟨Bx, 2, none⟩ = some (.string l[x].dst) ∧ W.cell? ⟨Bx, 3, none⟩ = some (.int .i64 l[x].time) ∧ a' = { tmps := #[.slice A l.length c, .func (.func 58) #[] #[], undef, .pointer (some ⟨w.heap.size, 0, none⟩), .map none, .pointer (some ⟨w.heap.size + 1 + 1, 0, none⟩), .int .i64 (x.val : Int), .pointer (some ⟨Bx, 0, none⟩), .slice A l.length c, .int .i64 l.length, .map (some (w.heap.size + 1)), .slice A l.length c, .func (.func 87) #[] #[.pointer (some ⟨w.heap.size + 1 + 1 + 1, 0, none⟩)], .int .i64 (x.val : Int), .agg #[.int .i64 l[x].kind, .string l[x].src, .string l[x].dst, .int .i64 l[x].time], undef, undef, undef, undef, undef, undef], defers := [] })
    (fun x a' _ X Y row hs hg hr => by obtain ⟨Bx, h1, h2, h3, h4, h5, hlast⟩ := hs; exact ⟨Bx, h1, cell_kept h2 hg (fun r e => (hr r e).2), cell_kept h3 hg (fun r e => (hr r e).2), cell_kept h4 hg (fun r e => (hr r e).2), cell_kept h5 hg (fun r e => (hr r e).2), hlast⟩)
    ?assign ?body ?done ?stop
  case seq =>
    intro lp J Jx W hW _ _ hY h0
    refine back1_rl 5 (by omega) lp (w.heap.size + 3) (w.heap.size + 4) (w.heap.size + 1) c A l hl (by omega) (by omega) J Jx hY W ((hW.cell (p := ⟨w.heap.size + 3, 0, none⟩) (by show w.heap.size + 3 < _; omega)).trans hc3) ?_ h0
    intro i hi
    obtain ⟨b, off, e, hb, hcc⟩ := hr.at_ (k := 4) (fun _ => rfl) (by omega) hi
    have hbW : Below w.heap.size w W := hB0.trans (hW.mono (by omega))
    rw [getElem!_pos l i hi] at hcc
    exact ⟨b, off, e, by omega, by omega, (hbW.cell (p := ⟨b, off + i * 4, none⟩) hb).trans (hcc 0 _ rfl), (hbW.cell (p := ⟨b, off + i * 4 + 1, none⟩) hb).trans (hcc 1 _ rfl), (hbW.cell (p := ⟨b, off + i * 4 + 2, none⟩) hb).trans (hcc 2 _ rfl), (hbW.cell (p := ⟨b, off + i * 4 + 3, none⟩) hb).trans (hcc 3 _ rfl)⟩
  case kb =>
    intro W lq o o' h1 h2 h3 h4 k hk _
    exact (belowK_b (w := W0) (n₀ := w.heap.size + 4) (by omega) W lq o o' h1 h2 h3 h4).block k hk
  case assign =>
    rintro lp pre x W K hi hK
    have hzW := hi.2.2
    gi_wp2
    exact hK _ _ ((KeepsOthers.alloc _ _).from _) (fun k hk _ => Below.heap_alloc W _ k (by omega)) (hi.alloc _) ⟨W.heap.size, by omega, by simp, by simp, by simp, by simp, rfl⟩
  case body =>
    rintro lp pre x a' W hlp _ hi ⟨Bx, hBx, x0, x1, x2, x3, rfl⟩ hlt
    have hmx : Try.prog.follows .mixedOrders = true := by kernel_rfl
    have hkey := keyR (hs l[x] (List.getElem_mem _))
    have HL : Hid ((fun i : Fin l.length => rlit (rkey l[i])) x = rlit (rkey l[x])) := rfl
    have hi' := hi
    obtain ⟨⟨cK, cM, D, hown, hf⟩, hB, hBz⟩ := hi'
    generalize l[x] = p at *
    have hxl := x.isLt
    have hsB := hB.size
    have hMl := hown.lt
    have hM2 : w.heap.size + 2 < W.heap.size := World.block_lt_of_cell? _ _ cM
    have hM3 : w.heap.size + 1 + 1 < W.heap.size := hM2
    have hBxl : Bx < W.heap.size := World.block_lt_of_cell? _ _ x0
    obtain ⟨w1, hrun1, hown1, hgrow1⟩ := World.ownsMap.update (w := ((W.alloc (.cells #[.int .i64 p.kind, .string p.src, .string p.dst, .int .i64 0] 60)).alloc (.cells #[.int .i64 p.kind, .string p.src, .string p.dst, .int .i64 0] 60)).drew) (val := .int .i64 (x.val : Int)) (((hown.alloc _).alloc _).drew) lawR Try.underlying86 (by unfold maxLen; omega) hkey (plainElem_int Try.underlying3 (WalkArith.wf_i64 (by omega)))
    have hrun2 : (Instr.mapUpdate 86 (.map (some (w.heap.size + 1))) (.agg #[.int .i64 p.kind, .string p.src, .string p.dst, .int .i64 0]) (.int .i64 (x.val : Int))).run Try.prog ((W.drew.alloc (.cells #[.int .i64 p.kind, .string p.src, .string p.dst, .int .i64 0] 60)).alloc (.cells #[.int .i64 p.kind, .string p.src, .string p.dst, .int .i64 0] 60)) = .ok () w1 := hrun1
    have HFIN := fun a => Lib.hid (FI.step hz0 hi ((((Below.refl _ W).alloc (Nat.le_refl _) _).alloc (by simp) _).drew) (((KeepsOthers.alloc W _).trans (KeepsOthers.alloc _ _)).trans (KeepsOthers.drew _)) hown hf hown1 hgrow1 HL.out (lawR.key hkey) a)
    clear hown1 hgrow1 hf hi hown
    gi_wp2
    gi_region_with_o (refine ⟨trivial, ?_⟩; gi_at_call 58; refine (CallsIn.inRound lp (callsIn_wide.2 (key_rl p _))).mono ?_; rintro e w' ⟨rfl, rfl⟩)
    all_goals gi_wp2
    all_goals exact (HFIN _).out
  case done =>
    rintro D ys W hD rfl hi hK
    have cM := hi.1.2.1
    have HF := Lib.hid (FI.done (w := w) (key := fun p : Rl => rlit (rkey p)) (o' := .deferred none) (by omega) hi hK)
    clear hi
    gi_wp2
    refine ⟨by simp, .inl ⟨_, _, rfl, run_takeDeferred hK, ?_⟩⟩
    exact ⟨_, results_tmp rfl _ _ _, _, rfl, HF.out⟩
  case stop =>
    rintro D c pre W _ _ h _
    exact h.elim
end Go.Proofs.Ytahhhhacoigpmaa

namespace Go.Proofs.Ytahhhhacoigpmaa
open Go.RowKit Go.Shelf
attribute [local go_sem] Oper.semAt_some
set_option maxRecDepth 100000 in
set_option maxHeartbeats 2000000 in
theorem back1_us (n : Nat) (hn : 1 ≤ n) (lp Bs n₀ m c : Nat) (A : Option Addr) (l : List Us) (hl : l.length ≤ 1000000) (hB : Bs < n₀) (hBm : Bs ≠ m) (J Jx : List (Fin l.length) → World → Prop)
    (hY : ∀ pre x W, J pre W → pre.length < l.length → YieldAt Fence.wide (n - 1) Try.prog lp #[.int .i64 (x.val : Int), .agg #[.string l[x].name, .slice l[x].ra l[x].roles.length l[x].rc, .string l[x].sub]] W fun e W' =>
      (e = .returned (.bool true) ∧ J (pre ++ [x]) W' ∧ KpM n₀ m W W') ∨ (e = .returned (.bool false) ∧ Jx (pre ++ [x]) W'))
    (W : World) (hBs : W.cell? ⟨Bs, 0, none⟩ = some (.slice A l.length c))
    (hc : ∀ (i : Nat) (h : i < l.length), ∃ b off, A = some ⟨b, off, none⟩ ∧ b < n₀ ∧ b ≠ m ∧ W.cell? ⟨b, off + i * 3, none⟩ = some (.string l[i].name) ∧ W.cell? ⟨b, off + i * 3 + 1, none⟩ = some (.slice l[i].ra l[i].roles.length l[i].rc) ∧ W.cell? ⟨b, off + i * 3 + 2, none⟩ = some (.string l[i].sub)) (h0 : J [] W) :
    CallsIn Fence.wide n Try.prog 88 #[.func (.yield lp) #[] #[], .pointer (some ⟨Bs, 0, none⟩)] W fun e W' => (∃ v, e = .returned v) ∧
      ((∃ ys, ys = (List.finRange l.length).reverse ∧ J ys W') ∨ (∃ pre, True ∧ Jx pre W')) := by
  refine callsIn_of_wp Try.func88 rfl trivial ?_ rfl
  simp only [Try.ntmps88, List.size_toArray, List.length_cons, List.length_nil, Nat.reduceAdd, Nat.reduceSub, Array.replicate_succ, Array.replicate_zero, List.push_toArray, List.append_toArray, List.nil_append, List.cons_append]
  gi_wp2
  gi_loopw [3] (fun i wr => ∃ (q : Nat) (z : Int), q ≤ l.length ∧ z = (q : Int) - 1 ∧ i = .int .i64 z ∧ J ((List.finRange l.length).drop q).reverse wr ∧ KpM n₀ m W wr)
    (fun i _ => (intOf i + 1).toNat)
  case atStart => exact ⟨l.length, _, Nat.le_refl _, rfl, rfl, by rw [List.drop_eq_nil_of_le (by simp)]; exact h0, fun _ _ _ => rfl⟩
  case round =>
    obtain ⟨q, z, hq, hz, rfl, hJs, hnx⟩ := hrel
    cases q with
    | zero =>
      obtain rfl : z = -1 := by omega
      clear hz
      gi_wp2
      go_end0
      exact ⟨⟨_, rfl⟩, .inl ⟨_, by rw [List.drop_zero], hJs⟩⟩
    | succ q =>
      obtain rfl : z = (q : Int) := by omega
      clear hz
      have hlt : q < l.length := hq
      obtain ⟨b, off, rfl, hb, hbm, c0, c1, c2⟩ := hc q hlt
      rw [← hnx.cell (p := ⟨b, _, none⟩) hb hbm] at c0 c1 c2
      have cB := hBs
      rw [← hnx.cell (p := ⟨Bs, _, none⟩) hB hBm] at cB
      obtain ⟨fn, tmps, assign, body, hy, hR⟩ := hY _ ⟨q, hlt⟩ wr hJs (by simp; omega)
      dsimp only [Fin.getElem_fin] at hy
      clear hc hBs
      gi_wp2
      refine hR.mono ?_
      rintro e W3 (⟨rfl, hJ3, hk3⟩ | ⟨rfl, hJx3⟩)
      · gi_wp2
        go_roundw
        case rel => exact ⟨q, _, by omega, rfl, by go_num, by rw [down_step hlt]; exact hJ3, hnx.trans hk3⟩
        case measure => simp [intOf]
      · gi_wp2
        refine bodyPost_ret (results_none rfl _ _ _) rfl ?_
        exact ⟨⟨_, rfl⟩, .inr ⟨_, trivial, hJx3⟩⟩
set_option maxHeartbeats 400000 in
theorem back_us (n : Nat) (A : Option Addr) (len c : Nat) (w : World) :
    CallsIn Fence.wide n Try.prog 80 #[.slice A len c] w fun e w' => e = .returned (.func (.func 88) #[] #[.pointer (some ⟨w.heap.size, 0, none⟩)]) ∧ w' = w.alloc (.cells #[.slice A len c] 25) := by
  refine callsIn_of_wp Try.func80 rfl trivial ?_ rfl
  simp only [Try.ntmps80, List.size_toArray, List.length_cons, List.length_nil, Nat.reduceAdd, Nat.reduceSub, Array.replicate_succ, Array.replicate_zero, List.push_toArray, List.append_toArray, List.nil_append, List.cons_append]
  gi_wp2
  go_ret
  exact ⟨rfl, rfl⟩
set_option maxHeartbeats 400000 in
theorem key_us (p : Us) (w : World) : Calls Try.prog 60 #[.agg #[.string p.name, .slice p.ra p.roles.length p.rc, .string p.sub]] w fun e w' => e = .returned (.string p.name) ∧ w' = w.alloc (.cells #[.string p.name, .slice p.ra p.roles.length p.rc, .string p.sub] 52) := by
  go_enter Try.func60, Try.ntmps60
  go_wp2
  go_ret
  exact ⟨rfl, rfl⟩
def firstsWus (w : World) (A : Option Addr) (len c : Nat) : World :=
  (((w.alloc (.cells #[.func (.func 60) #[] #[]] 103)).alloc (.map #[] 0)).alloc (.cells #[.map (some (w.heap.size + 1))] 65)).alloc (.cells #[.slice A len c] 25)
set_option maxRecDepth 100000 in
set_option maxHeartbeats 2000000 in
theorem firsts_us (A : Option Addr) (c : Nat) (l : List Us) (w : World) (hr : Row w A (l.flatMap usC)) (hl : l.length ≤ 1000000) (hs : ∀ p ∈ l, p.name.size ≤ 140737488351232) :
    Calls Try.prog 59 #[.slice A l.length c, .func (.func 60) #[] #[]] w fun e w' =>
      ∃ b, e = .returned (.map (some b)) ∧ MapFn w' Try.prog 9 3 b l.length (firstOf (l.map fun p => litS p.name)) ∧ Below w.heap.size w w' ∧ w.heap.size ≤ b := by
  refine (callsIn_wide (n := 6)).1 ?_
  have hmm := mkS
  refine callsIn_of_wp_marks Try.func59 rfl trivial ?_ rfl
  simp only [Try.ntmps59, List.size_toArray, List.length_cons, List.length_nil, Nat.reduceAdd, Nat.reduceSub, Array.replicate_succ, Array.replicate_zero, List.push_toArray, List.append_toArray, List.nil_append, List.cons_append]
  gi_wp2_with (refine ⟨trivial, ?_⟩; gi_at_call 80; refine (back_us _ _ _ _ _).mono ?_; rintro e w' ⟨rfl, rfl⟩)
  obtain ⟨W0, hW0⟩ : ∃ W0, firstsWus w A l.length c = W0 := ⟨_, rfl⟩
  have hz0 : W0.heap.size = w.heap.size + 4 := by rw [← hW0]; simp [firstsWus]
  have hB0 : Below w.heap.size w W0 := by rw [← hW0]; exact ((((Below.refl _ w).alloc (Nat.le_refl _) _).alloc (by simp) _).alloc (by simp; omega) _).alloc (by simp; omega) _
  have hc0 : W0.cell? ⟨w.heap.size, 0, none⟩ = some (.func (.func 60) #[] #[]) := by
    rw [← hW0]; exact cell_old _ _ (by simp; omega) (cell_old _ _ (by simp; omega) (cell_old _ _ (by simp) (cell_new1 _ _ _)))
  have hc2 : W0.cell? ⟨w.heap.size + 2, 0, none⟩ = some (.map (some (w.heap.size + 1))) := by
    rw [← hW0]; refine cell_old _ _ (by simp) ?_; have := cell_new1 ((w.alloc (.cells #[.func (.func 60) #[] #[]] 103)).alloc (.map #[] 0)) (.map (some (w.heap.size + 1))) 65; rw [World.size_alloc, World.size_alloc] at this; exact this
  have hc3 : W0.cell? ⟨w.heap.size + 3, 0, none⟩ = some (.slice A l.length c) := by
    rw [← hW0]; have := cell_new1 (((w.alloc (.cells #[.func (.func 60) #[] #[]] 103)).alloc (.map #[] 0)).alloc (.cells #[.map (some (w.heap.size + 1))] 65)) (.slice A l.length c) 25; rw [World.size_alloc, World.size_alloc, World.size_alloc] at this; exact this
  have hm0 : MapFn W0 Try.prog 9 3 (w.heap.size + 1) 0 (fun _ => none) := by
    rw [← hW0]
    have := MapFn.made (w.alloc (.cells #[.func (.func 60) #[] #[]] 103)) Try.prog 9 3
    rw [World.size_alloc] at this
    exact this.below (Nat.le_refl _) (((Below.refl _ _).alloc (Nat.le_refl _) _).alloc (by simp) _)
  have hr0 := hr.below (Nat.le_refl _) hB0
  show Code.wpIn Fence.wide 6 _ _ _ _ (firstsWus w A l.length c)
  rw [hW0]
  clear hW0 hmm
  refine wpIn_rangeFunc_ownH (α := Fin l.length) rfl (by omega) (gf := 88) (lb := #[.pointer (some ⟨w.heap.size + 3, 0, none⟩)]) rfl trivial (enters_of Try.func88 (by kernel_rfl) rfl)
    (encs := fun x => #[.int .i64 (x.val : Int), .agg #[.string l[x].name, .slice l[x].ra l[x].roles.length l[x].rc, .string l[x].sub]]) (Kp := KpM (w.heap.size + 4) (w.heap.size + 1)) (S := fun ys => ys = (List.finRange l.length).reverse) (Sp := fun _ => True) (N := l.length) (w0 := W0)
    ?seq KpM.trans ?kb (Below.refl _ _) (fun _ => rfl)
    (FI 9 w (.func (.func 60) #[] #[]) (fun i : Fin l.length => litS l[i].name)) (fun _ _ _ => False) (FI.own hz0) (fun _ _ _ _ _ hs _ _ => hs) ⟨⟨hc0, hc2, hm0⟩, hB0, by omega⟩
    (fun x a' W => ∃ Bx, w.heap.size + 3 < Bx ∧ W.cell? ⟨Bx, 0, none⟩ = some (.string l[x].name) ∧ W.cell? ⟨Bx, 1, none⟩ = some (.slice l[x].ra l[x].roles.length l[x].rc) ∧ W.cell? ⟨Bx, 2, none⟩ = some (.string l[x].sub) ∧ a' = { tmps := #[.slice A l.length c, .func (.func 60) #[] #[], undef, .pointer (some ⟨w.heap.size, 0, none⟩), .map none, .pointer (some ⟨w.heap.size + 1 + 1, 0, none⟩), .int .i64 (x.val : Int), .pointer (some ⟨Bx, 0, none⟩), .slice A l.length c, .int .i64 l.length, .map (some (w.heap.size + 1)), .slice A l.length c, .func (.func 88) #[] #[.pointer (some ⟨w.heap.size + 1 + 1 + 1, 0, none⟩)], .int .i64 (x.val : Int), .agg #[.string l[x].name, .slice l[x].ra l[x].roles.length l[x].rc, .string l[x].sub], undef, undef, undef, undef, undef, undef], defers := [] })
    (fun x a' _ X Y row hs hg hr => by obtain ⟨Bx, h1, h2, h3, h4, hlast⟩ := hs; exact ⟨Bx, h1, cell_kept h2 hg (fun r e => (hr r e).2), cell_kept h3 hg (fun r e => (hr r e).2), cell_kept h4 hg (fun r e => (hr r e).2), hlast⟩)
    ?assign ?body ?done ?stop
  case seq =>
    intro lp J Jx W hW _ _ hY h0
    refine back1_us 5 (by omega) lp (w.heap.size + 3) (w.heap.size + 4) (w.heap.size + 1) c A l hl (by omega) (by omega) J Jx hY W ((hW.cell (p := ⟨w.heap.size + 3, 0, none⟩) (by show w.heap.size + 3 < _; omega)).trans hc3) ?_ h0
    intro i hi
    obtain ⟨b, off, e, hb, hcc⟩ := hr.at_ (k := 3) (fun _ => rfl) (by omega) hi
    have hbW : Below w.heap.size w W := hB0.trans (hW.mono (by omega))
    rw [getElem!_pos l i hi] at hcc
    exact ⟨b, off, e, by omega, by omega, (hbW.cell (p := ⟨b, off + i * 3, none⟩) hb).trans (hcc 0 _ rfl), (hbW.cell (p := ⟨b, off + i * 3 + 1, none⟩) hb).trans (hcc 1 _ rfl), (hbW.cell (p := ⟨b, off + i * 3 + 2, none⟩) hb).trans (hcc 2 _ rfl)⟩
  case kb =>
    intro W lq o o' h1 h2 h3 h4 k hk _
    exact (belowK_b (w := W0) (n₀ := w.heap.size + 4) (by omega) W lq o o' h1 h2 h3 h4).block k hk
  case assign =>
    rintro lp pre x W K hi hK
    have hzW := hi.2.2
    gi_wp2
    exact hK _ _ ((KeepsOthers.alloc _ _).from _) (fun k hk _ => Below.heap_alloc W _ k (by omega)) (hi.alloc _) ⟨W.heap.size, by omega, by simp, by simp, by simp, rfl⟩
  case body =>
    rintro lp pre x a' W hlp _ hi ⟨Bx, hBx, x0, x1, x2, rfl⟩ hlt
    have hmx : Try.prog.follows .mixedOrders = true := by kernel_rfl
    have hkey := keyS (hs l[x] (List.getElem_mem _))
    have HL : Hid ((fun i : Fin l.length => litS l[i].name) x = litS l[x].name) := rfl
    have hi' := hi
    obtain ⟨⟨cK, cM, D, hown, hf⟩, hB, hBz⟩ := hi'
    generalize l[x] = p at *
    have hxl := x.isLt
    have hsB := hB.size
    have hMl := hown.lt
    have hM2 : w.heap.size + 2 < W.heap.size := World.block_lt_of_cell? _ _ cM
    have hM3 : w.heap.size + 1 + 1 < W.heap.size := hM2
    have hBxl : Bx < W.heap.size := World.block_lt_of_cell? _ _ x0
    obtain ⟨w1, hrun1, hown1, hgrow1⟩ := World.ownsMap.update (w := (W.alloc (.cells #[.string p.name, .slice p.ra p.roles.length p.rc, .string p.sub] 52)).drew) (val := .int .i64 (x.val : Int)) ((hown.alloc _).drew) lawS Try.underlying65 (by unfold maxLen; omega) hkey (plainElem_int Try.underlying3 (WalkArith.wf_i64 (by omega)))
    have hrun2 : (Instr.mapUpdate 65 (.map (some (w.heap.size + 1))) (.string p.name) (.int .i64 (x.val : Int))).run Try.prog (W.drew.alloc (.cells #[.string p.name, .slice p.ra p.roles.length p.rc, .string p.sub] 52)) = .ok () w1 := hrun1
    have HFIN := fun a => Lib.hid (FI.step hz0 hi (((Below.refl _ W).alloc (Nat.le_refl _) _).drew) ((KeepsOthers.alloc W _).trans (KeepsOthers.drew _)) hown hf hown1 hgrow1 HL.out (lawS.key hkey) a)
    clear hown1 hgrow1 hf hi hown
    gi_wp2
    gi_region_with_o (refine ⟨trivial, ?_⟩; gi_at_call 60; refine (CallsIn.inRound lp (callsIn_wide.2 (key_us p _))).mono ?_; rintro e w' ⟨rfl, rfl⟩)
    all_goals gi_wp2
    all_goals exact (HFIN _).out
  case done =>
    rintro D ys W hD rfl hi hK
    have cM := hi.1.2.1
    have HF := Lib.hid (FI.done (w := w) (key := fun p : Us => litS p.name) (o' := .deferred none) (by omega) hi hK)
    clear hi
    gi_wp2
    refine ⟨by simp, .inl ⟨_, _, rfl, run_takeDeferred hK, ?_⟩⟩
    exact ⟨_, results_tmp rfl _ _ _, _, rfl, HF.out⟩
  case stop =>
    rintro D c pre W _ _ h _
    exact h.elim
end Go.Proofs.Ytahhhhacoigpmaa

namespace Go.Proofs.Ytahhhhacoigpmaa
open Go.RowKit Go.Shelf
def lkA (g : Gr) (a b c d : Value) : Array Value := #[.slice g.ga g.gs.length g.gc, .slice g.ea g.es.length g.ec, .slice g.ra g.rs.length g.rc, .slice g.ua g.us.length g.uc, a, b, c, d]
/-- The looker while its maps are gathered. -/
structure GS (w0 w W : World) (L : Nat) (g : Gr) (a b c d : Value) : Prop where
  blk : W.heap[L]? = some (.cells (lkA g a b c d) 88 (0, 0))
  bel : Below w0.heap.size w0 W
  kept : ∀ k, k < w.heap.size → k ≠ L → W.heap[k]? = w.heap[k]?
  size : w.heap.size ≤ W.heap.size
theorem GS.next {w0 w W W' : World} {L : Nat} {g : Gr} {a b c d : Value} (h : GS w0 w W L g a b c d) (hb : Below W.heap.size W W') : GS w0 w W' L g a b c d :=
  ⟨(hb.block _ (Array.getElem?_eq_some_iff.1 h.blk).1).trans h.blk, h.bel.trans (hb.mono h.bel.size), fun k h1 h2 => (hb.block k (Nat.lt_of_lt_of_le h1 h.size)).trans (h.kept k h1 h2), Nat.le_trans h.size hb.size⟩
theorem GS.set {w0 w W : World} {L i : Nat} {g : Gr} {a b c d a' b' c' d' : Value} (h : GS w0 w W L g a b c d) (hL : w0.heap.size ≤ L) (v : Value) (he : (lkA g a b c d).setIfInBounds i v = lkA g a' b' c' d') : GS w0 w (W.setCell ⟨L, i, none⟩ v) L g a' b' c' d' :=
  ⟨by rw [blk_set h.blk, he], h.bel.setCell (p := ⟨L, i, none⟩) hL v, fun k h1 h2 => (blk_other h2).trans (h.kept k h1 h2), by have := h.size; simp [World.setCell]; exact this⟩
theorem MapFn.set {w : World} {P : Program} {k e : TypeId} {b n L i : Nat} {f : Lit → Option Nat} {v : Value} (h : MapFn w P k e b n f) (hne : b ≠ L) : MapFn (w.setCell ⟨L, i, none⟩ v) P k e b n f := h.block (blk_other hne)
theorem size_set (w : World) (p : Addr) (v : Value) : (w.setCell p v).heap.size = w.heap.size := by simp [World.setCell]
set_option maxRecDepth 100000 in
set_option maxHeartbeats 4000000 in
theorem gather_any (w0 w : World) (L : Nat) (g : Gr) (hI : InG w0 g) (hz : SzG g) (h1 : g.gs.length ≤ 1000000) (h2 : g.es.length ≤ 1000000) (h3 : g.rs.length ≤ 1000000) (h4 : g.us.length ≤ 1000000) (hL0 : w0.heap.size ≤ L)
    (hg : GS w0 w w L g (.map none) (.map none) (.map none) (.map none)) :
    Calls Try.prog 39 #[.pointer (some ⟨L, 0, none⟩)] w fun e w' => (∃ v, e = .returned v) ∧ ∃ bg be br bu, LkIn w' L g bg be br bu ∧ GS w0 w w' L g (.map (some bg)) (.map (some be)) (.map (some br)) (.map (some bu)) ∧ (L < bg ∧ L < be ∧ L < br ∧ L < bu) := by
  have hLs : L < w.heap.size := (Array.getElem?_eq_some_iff.1 hg.blk).1
  have c0 := cell_blk (i := 0) hg.blk rfl
  have c4 := cell_blk (i := 4) hg.blk rfl
  have HI := Lib.hid hI
  have HZ := Lib.hid hz
  have HG := Lib.hid hg
  clear hI hz hg
  go_enter Try.func39, Try.ntmps39
  go_wp2_with fail
  refine (firsts_gp g.ga g.gc g.gs _ (HI.out.gs.below (Nat.le_refl _) HG.out.bel) h1 (fun p hp => (HZ.out.gp p hp).1)).mono ?_
  rintro e w1 ⟨b4, rfl, m4, hb1, hl4⟩
  have g1 := HG.out.next hb1
  have s1 := hb1.size
  have d1 := cell_blk (i := 1) g1.blk rfl
  have d4 := cell_blk (i := 4) g1.blk rfl
  have f4 := frozen_blk (i := 4) g1.blk
  have G1 := Lib.hid (g1.set (i := 4) hL0 (.map (some b4)) (a' := .map (some b4)) (b' := .map none) (c' := .map none) (d' := .map none) rfl)
  have M4 := Lib.hid (m4.set (L := L) (i := 4) (v := .map (some b4)) (by omega))
  clear hb1 g1 m4 c0 c4
  go_wp2_with fail
  refine (firsts_ev g.ea g.ec g.es _ (HI.out.es.below (Nat.le_refl _) G1.out.bel) h2 (fun p hp => (HZ.out.ev p hp).1)).mono ?_
  rintro e w2 ⟨b5, rfl, m5, hb2, hl5⟩
  have g2 := G1.out.next hb2
  have s2 := hb2.size
  rw [size_set] at s2 hl5
  have M4' := Lib.hid (M4.out.below (Nat.le_refl _) hb2)
  have d2 := cell_blk (i := 2) g2.blk rfl
  have d5 := cell_blk (i := 5) g2.blk rfl
  have f5 := frozen_blk (i := 5) g2.blk
  have G2 := Lib.hid (g2.set (i := 5) hL0 (.map (some b5)) (a' := .map (some b4)) (b' := .map (some b5)) (c' := .map none) (d' := .map none) rfl)
  have M4 := Lib.hid (M4'.out.set (L := L) (i := 5) (v := .map (some b5)) (by omega))
  have M5 := Lib.hid (m5.set (L := L) (i := 5) (v := .map (some b5)) (by omega))
  clear hb2 g2 m5 M4' d1 d4 f4 G1
  go_wp2_with fail
  refine (firsts_rl g.ra g.rc g.rs _ (HI.out.rs.below (Nat.le_refl _) G2.out.bel) h3 (fun p hp => ⟨(HZ.out.rl p hp).1, (HZ.out.rl p hp).2.1, (HZ.out.rl p hp).2.2.1⟩)).mono ?_
  rintro e w3 ⟨b6, rfl, m6, hb3, hl6⟩
  have g3 := G2.out.next hb3
  have s3 := hb3.size
  rw [size_set] at s3 hl6
  have M4' := Lib.hid (M4.out.below (Nat.le_refl _) hb3)
  have M5' := Lib.hid (M5.out.below (Nat.le_refl _) hb3)
  have d3 := cell_blk (i := 3) g3.blk rfl
  have d6 := cell_blk (i := 6) g3.blk rfl
  have f6 := frozen_blk (i := 6) g3.blk
  have G3 := Lib.hid (g3.set (i := 6) hL0 (.map (some b6)) (a' := .map (some b4)) (b' := .map (some b5)) (c' := .map (some b6)) (d' := .map none) rfl)
  have M4 := Lib.hid (M4'.out.set (L := L) (i := 6) (v := .map (some b6)) (by omega))
  have M5 := Lib.hid (M5'.out.set (L := L) (i := 6) (v := .map (some b6)) (by omega))
  have M6 := Lib.hid (m6.set (L := L) (i := 6) (v := .map (some b6)) (by omega))
  clear hb3 g3 m6 M4' M5' d2 d5 f5 G2
  go_wp2_with fail
  refine (firsts_us g.ua g.uc g.us _ (HI.out.us.below (Nat.le_refl _) G3.out.bel) h4 (fun p hp => (HZ.out.ur p hp).1)).mono ?_
  rintro e w4 ⟨b7, rfl, m7, hb4, hl7⟩
  have g4 := G3.out.next hb4
  have s4 := hb4.size
  rw [size_set] at s4 hl7
  have M4' := Lib.hid (M4.out.below (Nat.le_refl _) hb4)
  have M5' := Lib.hid (M5.out.below (Nat.le_refl _) hb4)
  have M6' := Lib.hid (M6.out.below (Nat.le_refl _) hb4)
  have d7 := cell_blk (i := 7) g4.blk rfl
  have f7 := frozen_blk (i := 7) g4.blk
  have G4 := Lib.hid (g4.set (i := 7) hL0 (.map (some b7)) (a' := .map (some b4)) (b' := .map (some b5)) (c' := .map (some b6)) (d' := .map (some b7)) rfl)
  have M4 := Lib.hid (M4'.out.set (L := L) (i := 7) (v := .map (some b7)) (by omega))
  have M5 := Lib.hid (M5'.out.set (L := L) (i := 7) (v := .map (some b7)) (by omega))
  have M6 := Lib.hid (M6'.out.set (L := L) (i := 7) (v := .map (some b7)) (by omega))
  have M7 := Lib.hid (m7.set (L := L) (i := 7) (v := .map (some b7)) (by omega))
  clear hb4 g4 m7 M4' M5' M6' d3 d6 f6 G3
  go_wp2_with fail
  go_end0
  have gb := G4.out.blk
  exact ⟨⟨_, rfl⟩, b4, b5, b6, b7, ⟨cell_blk gb rfl, cell_blk gb rfl, cell_blk gb rfl, cell_blk gb rfl, cell_blk gb rfl, cell_blk gb rfl, cell_blk gb rfl, cell_blk gb rfl, M4.out, M5.out, M6.out, M7.out, HI.out.below (Nat.le_refl _) G4.out.bel⟩, G4.out, by omega, by omega, by omega, by omega⟩
end Go.Proofs.Ytahhhhacoigpmaa
