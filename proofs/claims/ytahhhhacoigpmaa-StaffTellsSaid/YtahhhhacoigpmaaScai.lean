/-
  Contract of the closure by which Check tells what is wrong first. Contracts of slices.Backward's closure and of graph.firsts, at groups. Contracts of slices.Backward's closure and of graph.firsts, at groups.
-/
import Derived.Test.YtahhhhacoigpmaaScah
import Derived.Test.YtahhhhacoigpmaaScab
namespace Go.Proofs.Ytahhhhacoigpmaa
open Go.RowKit Go.Shelf
theorem tellS_zero (s : St) (part : Nat) (f : Nat → Nat) : tellS s part f 0 = s := by unfold tellS; simp [tellL]
theorem tellS_step {s : St} {part k : Nat} {f : Nat → Nat} (h : (tellS s part f k).2.2 = 0) : tellS s part f (k + 1) = if f k = 0 then tellS s part f k else (part, k, f k) := by
  obtain ⟨h0, hk⟩ := tellS_ok.1 h
  have hn := tellL_none.2 hk
  unfold tellS
  rw [if_pos h0, if_pos h0, hn, tellL, hn]
  by_cases e : f k = 0
  · simp [e]
  · simp [e]
theorem tellL_more {f : Nat → Nat} {x : Nat × Nat} : ∀ {n k : Nat}, tellL f k = some x → k ≤ n → tellL f n = some x
  | 0, k, h, hk => by obtain rfl : k = 0 := by omega
                      exact h
  | n + 1, k, h, hk => by
    by_cases e : k = n + 1
    · rw [← e]; exact h
    · rw [tellL, tellL_more h (by omega : k ≤ n)]
theorem tellS_stop {s : St} {part k n : Nat} {f : Nat → Nat} (h : (tellS s part f k).2.2 ≠ 0) (hk : k ≤ n) : tellS s part f n = tellS s part f k := by
  unfold tellS at h ⊢
  by_cases h0 : s.2.2 = 0
  · rw [if_pos h0] at h
    rw [if_pos h0, if_pos h0]
    cases hx : tellL f k with
    | none => rw [hx] at h; exact absurd h0 h
    | some x => rw [tellL_more hx hk]
  · rw [if_neg h0, if_neg h0]
/-- All but two blocks are as they were. -/
structure Kx (Be Bp : Nat) (w w' : World) : Prop where
  os : w'.os = w.os
  tape : w'.tape = w.tape
  output : w'.output = w.output
  size : w.heap.size ≤ w'.heap.size
  block : ∀ k, k < w.heap.size → k ≠ Be → k ≠ Bp → w'.heap[k]? = w.heap[k]?
theorem Kx.refl (Be Bp : Nat) (w : World) : Kx Be Bp w w := ⟨rfl, rfl, rfl, Nat.le_refl _, fun _ _ _ _ => rfl⟩
theorem Kx.trans {Be Bp : Nat} {a b c : World} (h : Kx Be Bp a b) (k : Kx Be Bp b c) : Kx Be Bp a c :=
  ⟨k.os.trans h.os, k.tape.trans h.tape, k.output.trans h.output, Nat.le_trans h.size k.size, fun i hi h1 h2 => (k.block i (Nat.lt_of_lt_of_le hi h.size) h1 h2).trans (h.block i hi h1 h2)⟩
theorem Kx.of_below {Be Bp : Nat} {a b : World} (h : Below a.heap.size a b) : Kx Be Bp a b := ⟨h.os, h.tape, h.output, h.size, fun i hi _ _ => h.block i hi⟩
theorem Kx.setCell {Be Bp : Nat} (w : World) {p : Addr} (u : Value) (h : p.block = Be ∨ p.block = Bp) : Kx Be Bp w (w.setCell p u) :=
  ⟨rfl, rfl, rfl, by simp [World.setCell], fun k _ h1 h2 => Below.heap_setCell _ _ _ _ (fun e => by rcases h with h | h; exact h1 (e.trans h); exact h2 (e.trans h))⟩
/-- What has been told so far. -/
structure TS (Be Bp : Nat) (w : World) (s : St) : Prop where
  e : w.heap[Be]? = some (.cells #[.int .i64 (s.2.2 : Int)] 32 (0, 0))
  p : w.heap[Bp]? = some (.cells #[.int .i64 (s.1 : Int), .int .i64 (s.2.1 : Int)] 62 (0, 0))
theorem cell_blk {w : World} {b i : Nat} {cs : Array Value} {t : TypeId} {v : Value} (h : w.heap[b]? = some (.cells cs t (0, 0))) (hi : cs[i]? = some v) : w.cell? ⟨b, i, none⟩ = some v := by
  unfold World.cell?; simp only; rw [h]; exact hi
theorem frozen_blk {w : World} {b i : Nat} {cs : Array Value} {t : TypeId} (h : w.heap[b]? = some (.cells cs t (0, 0))) : w.frozen? ⟨b, i, none⟩ = false := by
  unfold World.frozen?; simp only; rw [h]; simp
theorem blk_set {w : World} {b i : Nat} {cs : Array Value} {t : TypeId} {v : Value} (h : w.heap[b]? = some (.cells cs t (0, 0))) : (w.setCell ⟨b, i, none⟩ v).heap[b]? = some (.cells (cs.setIfInBounds i v) t (0, 0)) := by
  simp [World.setCell, Array.getElem?_modify, h]
theorem blk_other {w : World} {b c i : Nat} {v : Value} (h : c ≠ b) : (w.setCell ⟨b, i, none⟩ v).heap[c]? = w.heap[c]? := Below.heap_setCell _ _ _ _ h
theorem TS.below {Be Bp : Nat} {w w' : World} {s : St} (h : TS Be Bp w s) (hb : Below w.heap.size w w') : TS Be Bp w' s :=
  ⟨(hb.block _ (Array.getElem?_eq_some_iff.1 h.e).1).trans h.e, (hb.block _ (Array.getElem?_eq_some_iff.1 h.p).1).trans h.p⟩
theorem TS.set_e {Be Bp : Nat} {w : World} {s : St} (h : TS Be Bp w s) (hne : Be ≠ Bp) (c : Nat) : TS Be Bp (w.setCell ⟨Be, 0, none⟩ (.int .i64 (c : Int))) (s.1, s.2.1, c) :=
  ⟨by rw [blk_set h.e]; rfl, by rw [blk_other (Ne.symm hne)]; exact h.p⟩
theorem TS.set_p {Be Bp : Nat} {w : World} {s : St} (h : TS Be Bp w s) (hne : Be ≠ Bp) (p a : Nat) : TS Be Bp ((w.setCell ⟨Bp, 0, none⟩ (.int .i64 (p : Int))).setCell ⟨Bp, 1, none⟩ (.int .i64 (a : Int))) (p, a, s.2.2) :=
  ⟨by rw [blk_other hne, blk_other hne]; exact h.e, by rw [blk_set (blk_set h.p)]; rfl⟩
set_option maxRecDepth 100000 in
set_option maxHeartbeats 2000000 in
theorem tell_any (w : World) (Be Bp L fl part n : Nat) (f : Nat → Nat) (s : St) (hne : Be ≠ Bp) (hs : TS Be Bp w s) (hn : n ≤ 140737488351232) (eg : ∀ args w, (callFunc fl args).run Try.prog w = .ok (.enter fl args) w)
    (hcall : ∀ (W : World) (i : Nat), s.2.2 = 0 → Kx Be Bp w W → i < n → Calls Try.prog fl #[.pointer (some ⟨L, 0, none⟩), .int .i64 i] W fun e W' => e = .returned (.int .i64 (f i)) ∧ Below W.heap.size W W') :
    Calls Try.prog 37 #[.int .i64 part, .int .i64 n, .func (.func fl) #[.pointer (some ⟨L, 0, none⟩)] #[], .pointer (some ⟨Be, 0, none⟩), .pointer (some ⟨Bp, 0, none⟩)] w fun e w' =>
      (∃ v, e = .returned v) ∧ TS Be Bp w' (tellS s part f n) ∧ Kx Be Bp w w' := by
  have HC := Lib.hid hcall
  clear hcall
  go_enter Try.func37, Try.ntmps37
  go_wp2_with fail
  go_loopw [8] (fun i wr => ∃ k : Nat, k ≤ n ∧ i = .int .i64 k ∧ TS Be Bp wr (tellS s part f k) ∧ Kx Be Bp w wr) (fun i _ => n - (intOf i).toNat)
  case atStart => exact ⟨0, Nat.zero_le _, rfl, by rw [tellS_zero]; exact hs, Kx.refl _ _ _⟩
  case round =>
    obtain ⟨k, hk, rfl, ht, hx⟩ := hrel
    have cE := cell_blk (i := 0) ht.e rfl
    have fE := frozen_blk (i := 0) ht.e
    by_cases hlt : k < n
    · by_cases h0 : (tellS s part f k).2.2 = 0
      · have hst := tellS_step h0
        have C := Lib.hid (HC.out wr k (tellS_ok.1 h0).1 hx hlt)
        rw [h0] at cE
        have HT := Lib.hid ht
        have HX := Lib.hid hx
        have HS := Lib.hid hst
        have H0 := Lib.hid h0
        have cz := hx.size
        clear ht hx hst h0
        have hz0 : (((0 : Nat) : Int)) = 0 := rfl
        by_cases hf : f k = 0
        · rw [hf] at C HS
          rw [if_pos rfl] at HS
          clear hf
          go_wp2_with fail
          refine C.out.mono ?_
          rintro e w1 ⟨rfl, hb1⟩
          have ht1 := HT.out.below hb1
          have cE1 := cell_blk (i := 0) ht1.e rfl
          have fE1 := frozen_blk (i := 0) ht1.e
          have HT2 := Lib.hid (ht1.set_e hne 0)
          have HX2 := Lib.hid ((HX.out.trans (Kx.of_below hb1)).trans (Kx.setCell (Be := Be) (Bp := Bp) w1 (p := ⟨Be, 0, none⟩) (.int .i64 ((0 : Nat) : Int)) (.inl rfl)))
          have HTE : Hid (((tellS s part f k).1, (tellS s part f k).2.1, 0) = tellS s part f k) := Lib.hid (by rw [← H0.out])
          clear ht1 hb1
          go_wp2_with fail
          go_roundw
          case rel => exact ⟨k + 1, hlt, by go_num, by rw [HS.out, ← HTE.out]; exact HT2.out, HX2.out⟩
          case measure => simp [intOf]; omega
        · have hf' : (((f k : Nat) : Int) != 0) = true := by rw [bne_iff_ne]; omega
          rw [if_neg hf] at HS
          clear hf
          generalize f k = c at *
          go_wp2_with fail
          refine C.out.mono ?_
          rintro e w1 ⟨rfl, hb1⟩
          have ht1 := HT.out.below hb1
          have cE1 := cell_blk (i := 0) ht1.e rfl
          have fE1 := frozen_blk (i := 0) ht1.e
          have cP0 := cell_blk (i := 0) ht1.p rfl
          have cP1 := cell_blk (i := 1) ht1.p rfl
          have fP0 := frozen_blk (i := 0) ht1.p
          have fP1 := frozen_blk (i := 1) ht1.p
          have HT2 := Lib.hid ((ht1.set_e hne c).set_p hne part k)
          have HX2 := Lib.hid ((((HX.out.trans (Kx.of_below hb1)).trans (Kx.setCell (Be := Be) (Bp := Bp) w1 (p := ⟨Be, 0, none⟩) (.int .i64 (c : Int)) (.inl rfl))).trans (Kx.setCell _ (p := ⟨Bp, 0, none⟩) (.int .i64 (part : Int)) (.inr rfl))).trans (Kx.setCell _ (p := ⟨Bp, 1, none⟩) (.int .i64 (k : Int)) (.inr rfl)))
          clear ht1 hb1
          go_wp2_with fail
          go_roundw
          case rel => exact ⟨k + 1, hlt, by go_num, by rw [HS.out]; exact HT2.out, HX2.out⟩
          case measure => simp [intOf]; omega
      · have HF := Lib.hid (tellS_stop h0 hk)
        have h0' : (((tellS s part f k).2.2 : Int) == 0) = false := by rw [beq_eq_false_iff_ne]; omega
        go_wp2_with fail
        go_end0
        exact ⟨⟨_, rfl⟩, by rw [HF.out]; exact ht, hx⟩
    · obtain rfl : k = n := by omega
      go_wp2_with fail
      go_end0
      exact ⟨⟨_, rfl⟩, ht, hx⟩
end Go.Proofs.Ytahhhhacoigpmaa

namespace Go.Proofs.Ytahhhhacoigpmaa
open Go.RowKit Go.Shelf
attribute [local go_sem] Oper.semAt_some
set_option maxRecDepth 100000 in
set_option maxHeartbeats 2000000 in
theorem back1_gp (n : Nat) (hn : 1 ≤ n) (lp Bs n₀ m c : Nat) (A : Option Addr) (l : List Gp) (hl : l.length ≤ 1000000) (hB : Bs < n₀) (hBm : Bs ≠ m) (J Jx : List (Fin l.length) → World → Prop)
    (hY : ∀ pre x W, J pre W → pre.length < l.length → YieldAt Fence.wide (n - 1) Try.prog lp #[.int .i64 (x.val : Int), .agg #[.string l[x].name, .string l[x].parent]] W fun e W' =>
      (e = .returned (.bool true) ∧ J (pre ++ [x]) W' ∧ KpM n₀ m W W') ∨ (e = .returned (.bool false) ∧ Jx (pre ++ [x]) W'))
    (W : World) (hBs : W.cell? ⟨Bs, 0, none⟩ = some (.slice A l.length c))
    (hc : ∀ (i : Nat) (h : i < l.length), ∃ b off, A = some ⟨b, off, none⟩ ∧ b < n₀ ∧ b ≠ m ∧ W.cell? ⟨b, off + i * 2, none⟩ = some (.string l[i].name) ∧ W.cell? ⟨b, off + i * 2 + 1, none⟩ = some (.string l[i].parent)) (h0 : J [] W) :
    CallsIn Fence.wide n Try.prog 85 #[.func (.yield lp) #[] #[], .pointer (some ⟨Bs, 0, none⟩)] W fun e W' => (∃ v, e = .returned v) ∧
      ((∃ ys, ys = (List.finRange l.length).reverse ∧ J ys W') ∨ (∃ pre, True ∧ Jx pre W')) := by
  refine callsIn_of_wp Try.func85 rfl trivial ?_ rfl
  simp only [Try.ntmps85, List.size_toArray, List.length_cons, List.length_nil, Nat.reduceAdd, Nat.reduceSub, Array.replicate_succ, Array.replicate_zero, List.push_toArray, List.append_toArray, List.nil_append, List.cons_append]
  gi_wp2
  gi_loopw [3] (fun i wr => ∃ (q : Nat) (z : Int), q ≤ l.length ∧ z = (q : Int) - 1 ∧ i = .int .i64 z ∧ J ((List.finRange l.length).drop q).reverse wr ∧ KpM n₀ m W wr)
    (fun i _ => (intOf i + 1).toNat)
  case atStart => exact ⟨l.length, _, Nat.le_refl _, rfl, rfl, by rw [List.drop_eq_nil_of_le (by simp)]; exact h0, fun _ _ _ => rfl⟩
  case round =>
    obtain ⟨q, z, hq, hz, rfl, hJs, hnx⟩ := hrel
    cases q with
    | zero =>
      obtain rfl : z = -1 := by omega
      clear hz
      gi_wp2
      go_end0
      exact ⟨⟨_, rfl⟩, .inl ⟨_, by rw [List.drop_zero], hJs⟩⟩
    | succ q =>
      obtain rfl : z = (q : Int) := by omega
      clear hz
      have hlt : q < l.length := hq
      obtain ⟨b, off, rfl, hb, hbm, c0, c1⟩ := hc q hlt
      rw [← hnx.cell (p := ⟨b, _, none⟩) hb hbm] at c0 c1
      have cB := hBs
      rw [← hnx.cell (p := ⟨Bs, _, none⟩) hB hBm] at cB
      obtain ⟨fn, tmps, assign, body, hy, hR⟩ := hY _ ⟨q, hlt⟩ wr hJs (by simp; omega)
      dsimp only [Fin.getElem_fin] at hy
      clear hc hBs
      gi_wp2
      refine hR.mono ?_
      rintro e W3 (⟨rfl, hJ3, hk3⟩ | ⟨rfl, hJx3⟩)
      · gi_wp2
        go_roundw
        case rel => exact ⟨q, _, by omega, rfl, by go_num, by rw [down_step hlt]; exact hJ3, hnx.trans hk3⟩
        case measure => simp [intOf]
      · gi_wp2
        refine bodyPost_ret (results_none rfl _ _ _) rfl ?_
        exact ⟨⟨_, rfl⟩, .inr ⟨_, trivial, hJx3⟩⟩
set_option maxHeartbeats 400000 in
theorem back_gp (n : Nat) (A : Option Addr) (len c : Nat) (w : World) :
    CallsIn Fence.wide n Try.prog 77 #[.slice A len c] w fun e w' => e = .returned (.func (.func 85) #[] #[.pointer (some ⟨w.heap.size, 0, none⟩)]) ∧ w' = w.alloc (.cells #[.slice A len c] 22) := by
  refine callsIn_of_wp Try.func77 rfl trivial ?_ rfl
  simp only [Try.ntmps77, List.size_toArray, List.length_cons, List.length_nil, Nat.reduceAdd, Nat.reduceSub, Array.replicate_succ, Array.replicate_zero, List.push_toArray, List.append_toArray, List.nil_append, List.cons_append]
  gi_wp2
  go_ret
  exact ⟨rfl, rfl⟩
set_option maxHeartbeats 400000 in
theorem key_gp (p : Gp) (w : World) : Calls Try.prog 54 #[.agg #[.string p.name, .string p.parent]] w fun e w' => e = .returned (.string p.name) ∧ w' = w.alloc (.cells #[.string p.name, .string p.parent] 56) := by
  go_enter Try.func54, Try.ntmps54
  go_wp2
  go_ret
  exact ⟨rfl, rfl⟩
def firstsWgp (w : World) (A : Option Addr) (len c : Nat) : World :=
  (((w.alloc (.cells #[.func (.func 54) #[] #[]] 97)).alloc (.map #[] 0)).alloc (.cells #[.map (some (w.heap.size + 1))] 65)).alloc (.cells #[.slice A len c] 22)
set_option maxRecDepth 100000 in
set_option maxHeartbeats 2000000 in
theorem firsts_gp (A : Option Addr) (c : Nat) (l : List Gp) (w : World) (hr : Row w A (l.flatMap gpC)) (hl : l.length ≤ 1000000) (hs : ∀ p ∈ l, p.name.size ≤ 140737488351232) :
    Calls Try.prog 53 #[.slice A l.length c, .func (.func 54) #[] #[]] w fun e w' =>
      ∃ b, e = .returned (.map (some b)) ∧ MapFn w' Try.prog 9 3 b l.length (firstOf (l.map fun p => litS p.name)) ∧ Below w.heap.size w w' ∧ w.heap.size ≤ b := by
  refine (callsIn_wide (n := 6)).1 ?_
  have hmm := mkS
  refine callsIn_of_wp_marks Try.func53 rfl trivial ?_ rfl
  simp only [Try.ntmps53, List.size_toArray, List.length_cons, List.length_nil, Nat.reduceAdd, Nat.reduceSub, Array.replicate_succ, Array.replicate_zero, List.push_toArray, List.append_toArray, List.nil_append, List.cons_append]
  gi_wp2_with (refine ⟨trivial, ?_⟩; gi_at_call 77; refine (back_gp _ _ _ _ _).mono ?_; rintro e w' ⟨rfl, rfl⟩)
  obtain ⟨W0, hW0⟩ : ∃ W0, firstsWgp w A l.length c = W0 := ⟨_, rfl⟩
  have hz0 : W0.heap.size = w.heap.size + 4 := by rw [← hW0]; simp [firstsWgp]
  have hB0 : Below w.heap.size w W0 := by rw [← hW0]; exact ((((Below.refl _ w).alloc (Nat.le_refl _) _).alloc (by simp) _).alloc (by simp; omega) _).alloc (by simp; omega) _
  have hc0 : W0.cell? ⟨w.heap.size, 0, none⟩ = some (.func (.func 54) #[] #[]) := by
    rw [← hW0]; exact cell_old _ _ (by simp; omega) (cell_old _ _ (by simp; omega) (cell_old _ _ (by simp) (cell_new1 _ _ _)))
  have hc2 : W0.cell? ⟨w.heap.size + 2, 0, none⟩ = some (.map (some (w.heap.size + 1))) := by
    rw [← hW0]; refine cell_old _ _ (by simp) ?_; have := cell_new1 ((w.alloc (.cells #[.func (.func 54) #[] #[]] 97)).alloc (.map #[] 0)) (.map (some (w.heap.size + 1))) 65; rw [World.size_alloc, World.size_alloc] at this; exact this
  have hc3 : W0.cell? ⟨w.heap.size + 3, 0, none⟩ = some (.slice A l.length c) := by
    rw [← hW0]; have := cell_new1 (((w.alloc (.cells #[.func (.func 54) #[] #[]] 97)).alloc (.map #[] 0)).alloc (.cells #[.map (some (w.heap.size + 1))] 65)) (.slice A l.length c) 22; rw [World.size_alloc, World.size_alloc, World.size_alloc] at this; exact this
  have hm0 : MapFn W0 Try.prog 9 3 (w.heap.size + 1) 0 (fun _ => none) := by
    rw [← hW0]
    have := MapFn.made (w.alloc (.cells #[.func (.func 54) #[] #[]] 97)) Try.prog 9 3
    rw [World.size_alloc] at this
    exact this.below (Nat.le_refl _) (((Below.refl _ _).alloc (Nat.le_refl _) _).alloc (by simp) _)
  have hr0 := hr.below (Nat.le_refl _) hB0
  show Code.wpIn Fence.wide 6 _ _ _ _ (firstsWgp w A l.length c)
  rw [hW0]
  clear hW0 hmm
  refine wpIn_rangeFunc_ownH (α := Fin l.length) rfl (by omega) (gf := 85) (lb := #[.pointer (some ⟨w.heap.size + 3, 0, none⟩)]) rfl trivial (enters_of Try.func85 (by kernel_rfl) rfl)
    (encs := fun x => #[.int .i64 (x.val : Int), .agg #[.string l[x].name, .string l[x].parent]]) (Kp := KpM (w.heap.size + 4) (w.heap.size + 1)) (S := fun ys => ys = (List.finRange l.length).reverse) (Sp := fun _ => True) (N := l.length) (w0 := W0)
    ?seq KpM.trans ?kb (Below.refl _ _) (fun _ => rfl)
    (FI 9 w (.func (.func 54) #[] #[]) (fun i : Fin l.length => litS l[i].name)) (fun _ _ _ => False) (FI.own hz0) (fun _ _ _ _ _ hs _ _ => hs) ⟨⟨hc0, hc2, hm0⟩, hB0, by omega⟩
    (fun x a' W => ∃ Bx, w.heap.size + 3 < Bx ∧ W.cell? ⟨Bx, 0, none⟩ = some (.string l[x].name) ∧ W.cell? ⟨Bx, 1, none⟩ = some (.string l[x].parent) ∧ a' = { tmps := #[.slice A l.length c, .func (.func 54) #[] #[], undef, .pointer (some ⟨w.heap.size, 0, none⟩), .map none, .pointer (some ⟨w.heap.size + 1 + 1, 0, none⟩), .int .i64 (x.val : Int), .pointer (some ⟨Bx, 0, none⟩), .slice A l.length c, .int .i64 l.length, .map (some (w.heap.size + 1)), .slice A l.length c, .func (.func 85) #[] #[.pointer (some ⟨w.heap.size + 1 + 1 + 1, 0, none⟩)], .int .i64 (x.val : Int), .agg #[.string l[x].name, .string l[x].parent], undef, undef, undef, undef, undef, undef], defers := [] })
    (fun x a' _ X Y row hs hg hr => by obtain ⟨Bx, h1, h2, h3, hlast⟩ := hs; exact ⟨Bx, h1, cell_kept h2 hg (fun r e => (hr r e).2), cell_kept h3 hg (fun r e => (hr r e).2), hlast⟩)
    ?assign ?body ?done ?stop
  case seq =>
    intro lp J Jx W hW _ _ hY h0
    refine back1_gp 5 (by omega) lp (w.heap.size + 3) (w.heap.size + 4) (w.heap.size + 1) c A l hl (by omega) (by omega) J Jx hY W ((hW.cell (p := ⟨w.heap.size + 3, 0, none⟩) (by show w.heap.size + 3 < _; omega)).trans hc3) ?_ h0
    intro i hi
    obtain ⟨b, off, e, hb, hcc⟩ := hr.at_ (k := 2) (fun _ => rfl) (by omega) hi
    have hbW : Below w.heap.size w W := hB0.trans (hW.mono (by omega))
    rw [getElem!_pos l i hi] at hcc
    exact ⟨b, off, e, by omega, by omega, (hbW.cell (p := ⟨b, off + i * 2, none⟩) hb).trans (hcc 0 _ rfl), (hbW.cell (p := ⟨b, off + i * 2 + 1, none⟩) hb).trans (hcc 1 _ rfl)⟩
  case kb =>
    intro W lq o o' h1 h2 h3 h4 k hk _
    exact (belowK_b (w := W0) (n₀ := w.heap.size + 4) (by omega) W lq o o' h1 h2 h3 h4).block k hk
  case assign =>
    rintro lp pre x W K hi hK
    have hzW := hi.2.2
    gi_wp2
    exact hK _ _ ((KeepsOthers.alloc _ _).from _) (fun k hk _ => Below.heap_alloc W _ k (by omega)) (hi.alloc _) ⟨W.heap.size, by omega, by simp, by simp, rfl⟩
  case body =>
    rintro lp pre x a' W hlp _ hi ⟨Bx, hBx, x0, x1, rfl⟩ hlt
    have hmx : Try.prog.follows .mixedOrders = true := by kernel_rfl
    have hkey := keyS (hs l[x] (List.getElem_mem _))
    have HL : Hid ((fun i : Fin l.length => litS l[i].name) x = litS l[x].name) := rfl
    have hi' := hi
    obtain ⟨⟨cK, cM, D, hown, hf⟩, hB, hBz⟩ := hi'
    generalize l[x] = p at *
    have hxl := x.isLt
    have hsB := hB.size
    have hMl := hown.lt
    have hM2 : w.heap.size + 2 < W.heap.size := World.block_lt_of_cell? _ _ cM
    have hM3 : w.heap.size + 1 + 1 < W.heap.size := hM2
    have hBxl : Bx < W.heap.size := World.block_lt_of_cell? _ _ x0
    obtain ⟨w1, hrun1, hown1, hgrow1⟩ := World.ownsMap.update (w := (W.alloc (.cells #[.string p.name, .string p.parent] 56)).drew) (val := .int .i64 (x.val : Int)) ((hown.alloc _).drew) lawS Try.underlying65 (by unfold maxLen; omega) hkey (plainElem_int Try.underlying3 (WalkArith.wf_i64 (by omega)))
    have hrun2 : (Instr.mapUpdate 65 (.map (some (w.heap.size + 1))) (.string p.name) (.int .i64 (x.val : Int))).run Try.prog (W.drew.alloc (.cells #[.string p.name, .string p.parent] 56)) = .ok () w1 := hrun1
    have HFIN := fun a => Lib.hid (FI.step hz0 hi (((Below.refl _ W).alloc (Nat.le_refl _) _).drew) ((KeepsOthers.alloc W _).trans (KeepsOthers.drew _)) hown hf hown1 hgrow1 HL.out (lawS.key hkey) a)
    clear hown1 hgrow1 hf hi hown
    gi_wp2
    gi_region_with_o (refine ⟨trivial, ?_⟩; gi_at_call 54; refine (CallsIn.inRound lp (callsIn_wide.2 (key_gp p _))).mono ?_; rintro e w' ⟨rfl, rfl⟩)
    all_goals gi_wp2
    all_goals exact (HFIN _).out
  case done =>
    rintro D ys W hD rfl hi hK
    have cM := hi.1.2.1
    have HF := Lib.hid (FI.done (w := w) (key := fun p : Gp => litS p.name) (o' := .deferred none) (by omega) hi hK)
    clear hi
    gi_wp2
    refine ⟨by simp, .inl ⟨_, _, rfl, run_takeDeferred hK, ?_⟩⟩
    exact ⟨_, results_tmp rfl _ _ _, _, rfl, HF.out⟩
  case stop =>
    rintro D c pre W _ _ h _
    exact h.elim
end Go.Proofs.Ytahhhhacoigpmaa

namespace Go.Proofs.Ytahhhhacoigpmaa
open Go.RowKit Go.Shelf
attribute [local go_sem] Oper.semAt_some
set_option maxRecDepth 100000 in
set_option maxHeartbeats 2000000 in
theorem back1_ev (n : Nat) (hn : 1 ≤ n) (lp Bs n₀ m c : Nat) (A : Option Addr) (l : List Ev) (hl : l.length ≤ 1000000) (hB : Bs < n₀) (hBm : Bs ≠ m) (J Jx : List (Fin l.length) → World → Prop)
    (hY : ∀ pre x W, J pre W → pre.length < l.length → YieldAt Fence.wide (n - 1) Try.prog lp #[.int .i64 (x.val : Int), .agg #[.string l[x].name, .string l[x].group, .string l[x].role, .bool l[x].inn, .bool l[x].done, .int .i64 l[x].due]] W fun e W' =>
      (e = .returned (.bool true) ∧ J (pre ++ [x]) W' ∧ KpM n₀ m W W') ∨ (e = .returned (.bool false) ∧ Jx (pre ++ [x]) W'))
    (W : World) (hBs : W.cell? ⟨Bs, 0, none⟩ = some (.slice A l.length c))
    (hc : ∀ (i : Nat) (h : i < l.length), ∃ b off, A = some ⟨b, off, none⟩ ∧ b < n₀ ∧ b ≠ m ∧ W.cell? ⟨b, off + i * 6, none⟩ = some (.string l[i].name) ∧ W.cell? ⟨b, off + i * 6 + 1, none⟩ = some (.string l[i].group) ∧ W.cell? ⟨b, off + i * 6 + 2, none⟩ = some (.string l[i].role) ∧ W.cell? ⟨b, off + i * 6 + 3, none⟩ = some (.bool l[i].inn) ∧ W.cell? ⟨b, off + i * 6 + 4, none⟩ = some (.bool l[i].done) ∧ W.cell? ⟨b, off + i * 6 + 5, none⟩ = some (.int .i64 l[i].due)) (h0 : J [] W) :
    CallsIn Fence.wide n Try.prog 86 #[.func (.yield lp) #[] #[], .pointer (some ⟨Bs, 0, none⟩)] W fun e W' => (∃ v, e = .returned v) ∧
      ((∃ ys, ys = (List.finRange l.length).reverse ∧ J ys W') ∨ (∃ pre, True ∧ Jx pre W')) := by
  refine callsIn_of_wp Try.func86 rfl trivial ?_ rfl
  simp only [Try.ntmps86, List.size_toArray, List.length_cons, List.length_nil, Nat.reduceAdd, Nat.reduceSub, Array.replicate_succ, Array.replicate_zero, List.push_toArray, List.append_toArray, List.nil_append, List.cons_append]
  gi_wp2
  gi_loopw [3] (fun i wr => ∃ (q : Nat) (z : Int), q ≤ l.length ∧ z = (q : Int) - 1 ∧ i = .int .i64 z ∧ J ((List.finRange l.length).drop q).reverse wr ∧ KpM n₀ m W wr)
    (fun i _ => (intOf i + 1).toNat)
  case atStart => exact ⟨l.length, _, Nat.le_refl _, rfl, rfl, by rw [List.drop_eq_nil_of_le (by simp)]; exact h0, fun _ _ _ => rfl⟩
  case round =>
    obtain ⟨q, z, hq, hz, rfl, hJs, hnx⟩ := hrel
    cases q with
    | zero =>
      obtain rfl : z = -1 := by omega
      clear hz
      gi_wp2
      go_end0
      exact ⟨⟨_, rfl⟩, .inl ⟨_, by rw [List.drop_zero], hJs⟩⟩
    | succ q =>
      obtain rfl : z = (q : Int) := by omega
      clear hz
      have hlt : q < l.length := hq
      obtain ⟨b, off, rfl, hb, hbm, c0, c1, c2, c3, c4, c5⟩ := hc q hlt
      rw [← hnx.cell (p := ⟨b, _, none⟩) hb hbm] at c0 c1 c2 c3 c4 c5
      have cB := hBs
      rw [← hnx.cell (p := ⟨Bs, _, none⟩) hB hBm] at cB
      obtain ⟨fn, tmps, assign, body, hy, hR⟩ := hY _ ⟨q, hlt⟩ wr hJs (by simp; omega)
      dsimp only [Fin.getElem_fin] at hy
      clear hc hBs
      gi_wp2
      refine hR.mono ?_
      rintro e W3 (⟨rfl, hJ3, hk3⟩ | ⟨rfl, hJx3⟩)
      · gi_wp2
        go_roundw
        case rel => exact ⟨q, _, by omega, rfl, by go_num, by rw [down_step hlt]; exact hJ3, hnx.trans hk3⟩
        case measure => simp [intOf]
      · gi_wp2
        refine bodyPost_ret (results_none rfl _ _ _) rfl ?_
        exact ⟨⟨_, rfl⟩, .inr ⟨_, trivial, hJx3⟩⟩
set_option maxHeartbeats 400000 in
theorem back_ev (n : Nat) (A : Option Addr) (len c : Nat) (w : World) :
    CallsIn Fence.wide n Try.prog 78 #[.slice A len c] w fun e w' => e = .returned (.func (.func 86) #[] #[.pointer (some ⟨w.heap.size, 0, none⟩)]) ∧ w' = w.alloc (.cells #[.slice A len c] 23) := by
  refine callsIn_of_wp Try.func78 rfl trivial ?_ rfl
  simp only [Try.ntmps78, List.size_toArray, List.length_cons, List.length_nil, Nat.reduceAdd, Nat.reduceSub, Array.replicate_succ, Array.replicate_zero, List.push_toArray, List.append_toArray, List.nil_append, List.cons_append]
  gi_wp2
  go_ret
  exact ⟨rfl, rfl⟩
set_option maxHeartbeats 400000 in
theorem key_ev (p : Ev) (w : World) : Calls Try.prog 56 #[.agg #[.string p.name, .string p.group, .string p.role, .bool p.inn, .bool p.done, .int .i64 p.due]] w fun e w' => e = .returned (.string p.name) ∧ w' = w.alloc (.cells #[.string p.name, .string p.group, .string p.role, .bool p.inn, .bool p.done, .int .i64 p.due] 58) := by
  go_enter Try.func56, Try.ntmps56
  go_wp2
  go_ret
  exact ⟨rfl, rfl⟩
def firstsWev (w : World) (A : Option Addr) (len c : Nat) : World :=
  (((w.alloc (.cells #[.func (.func 56) #[] #[]] 99)).alloc (.map #[] 0)).alloc (.cells #[.map (some (w.heap.size + 1))] 65)).alloc (.cells #[.slice A len c] 23)
set_option maxRecDepth 100000 in
set_option maxHeartbeats 2000000 in
theorem firsts_ev (A : Option Addr) (c : Nat) (l : List Ev) (w : World) (hr : Row w A (l.flatMap evC)) (hl : l.length ≤ 1000000) (hs : ∀ p ∈ l, p.name.size ≤ 140737488351232) :
    Calls Try.prog 55 #[.slice A l.length c, .func (.func 56) #[] #[]] w fun e w' =>
      ∃ b, e = .returned (.map (some b)) ∧ MapFn w' Try.prog 9 3 b l.length (firstOf (l.map fun p => litS p.name)) ∧ Below w.heap.size w w' ∧ w.heap.size ≤ b := by
  refine (callsIn_wide (n := 6)).1 ?_
  have hmm := mkS
  refine callsIn_of_wp_marks Try.func55 rfl trivial ?_ rfl
  simp only [Try.ntmps55, List.size_toArray, List.length_cons, List.length_nil, Nat.reduceAdd, Nat.reduceSub, Array.replicate_succ, Array.replicate_zero, List.push_toArray, List.append_toArray, List.nil_append, List.cons_append]
  gi_wp2_with (refine ⟨trivial, ?_⟩; gi_at_call 78; refine (back_ev _ _ _ _ _).mono ?_; rintro e w' ⟨rfl, rfl⟩)
  obtain ⟨W0, hW0⟩ : ∃ W0, firstsWev w A l.length c = W0 := ⟨_, rfl⟩
  have hz0 : W0.heap.size = w.heap.size + 4 := by rw [← hW0]; simp [firstsWev]
  have hB0 : Below w.heap.size w W0 := by rw [← hW0]; exact ((((Below.refl _ w).alloc (Nat.le_refl _) _).alloc (by simp) _).alloc (by simp; omega) _).alloc (by simp; omega) _
  have hc0 : W0.cell? ⟨w.heap.size, 0, none⟩ = some (.func (.func 56) #[] #[]) := by
    rw [← hW0]; exact cell_old _ _ (by simp; omega) (cell_old _ _ (by simp; omega) (cell_old _ _ (by simp) (cell_new1 _ _ _)))
  have hc2 : W0.cell? ⟨w.heap.size + 2, 0, none⟩ = some (.map (some (w.heap.size + 1))) := by
    rw [← hW0]; refine cell_old _ _ (by simp) ?_; have := cell_new1 ((w.alloc (.cells #[.func (.func 56) #[] #[]] 99)).alloc (.map #[] 0)) (.map (some (w.heap.size + 1))) 65; rw [World.size_alloc, World.size_alloc] at this; exact this
  have hc3 : W0.cell? ⟨w.heap.size + 3, 0, none⟩ = some (.slice A l.length c) := by
    rw [← hW0]; have := cell_new1 (((w.alloc (.cells #[.func (.func 56) #[] #[]] 99)).alloc (.map #[] 0)).alloc (.cells #[.map (some (w.heap.size + 1))] 65)) (.slice A l.length c) 23; rw [World.size_alloc, World.size_alloc, World.size_alloc] at this; exact this
  have hm0 : MapFn W0 Try.prog 9 3 (w.heap.size + 1) 0 (fun _ => none) := by
    rw [← hW0]
    have := MapFn.made (w.alloc (.cells #[.func (.func 56) #[] #[]] 99)) Try.prog 9 3
    rw [World.size_alloc] at this
    exact this.below (Nat.le_refl _) (((Below.refl _ _).alloc (Nat.le_refl _) _).alloc (by simp) _)
  have hr0 := hr.below (Nat.le_refl _) hB0
  show Code.wpIn Fence.wide 6 _ _ _ _ (firstsWev w A l.length c)
  rw [hW0]
  clear hW0 hmm
  refine wpIn_rangeFunc_ownH (α := Fin l.length) rfl (by omega) (gf := 86) (lb := #[.pointer (some ⟨w.heap.size + 3, 0, none⟩)]) rfl trivial (enters_of Try.func86 (by kernel_rfl) rfl)
    (encs := fun x => #[.int .i64 (x.val : Int), .agg #[.string l[x].name, .string l[x].group, .string l[x].role, .bool l[x].inn, .bool l[x].done, .int .i64 l[x].due]]) (Kp := KpM (w.heap.size + 4) (w.heap.size + 1)) (S := fun ys => ys = (List.finRange l.length).reverse) (Sp := fun _ => True) (N := l.length) (w0 := W0)
    ?seq KpM.trans ?kb (Below.refl _ _) (fun _ => rfl)
    (FI 9 w (.func (.func 56) #[] #[]) (fun i : Fin l.length => litS l[i].name)) (fun _ _ _ => False) (FI.own hz0) (fun _ _ _ _ _ hs _ _ => hs) ⟨⟨hc0, hc2, hm0⟩, hB0, by omega⟩
    (fun x a' W => ∃ Bx, w.heap.size + 3 < Bx ∧ W.cell? ⟨Bx, 0, none⟩ = some (.string l[x].name) ∧ W.cell? ⟨Bx, 1, none⟩ = some (.string l[x].group) ∧ W.cell? ⟨Bx, 2, none⟩ = some (.string l[x].role) ∧ W.cell? ⟨Bx, 3, none⟩ = some (.bool l[x].inn) ∧ W.cell? ⟨Bx, 4, none⟩ = some (.bool l[x].done) ∧ W.cell? ⟨Bx, 5, none⟩ = some (.int .i64 l[x].due) ∧ a' = { tmps := #[.slice A l.length c, .func (.func 56) #[] #[], undef, .pointer (some ⟨w.heap.size, 0, none⟩), .map none, .pointer (some ⟨w.heap.size + 1 + 1, 0, none⟩), .int .i64 (x.val : Int), .pointer (some ⟨Bx, 0, none⟩), .slice A l.length c, .int .i64 l.length, .map (some (w.heap.size + 1)), .slice A l.length c, .func (.func 86) #[] #[.pointer (some ⟨w.heap.size + 1 + 1 + 1, 0, none⟩)], .int .i64 (x.val : Int), .agg #[.string l[x].name, .string l[x].group, .string l[x].role, .bool l[x].inn, .bool l[x].done, .int .i64 l[x].due], undef, undef, undef, undef, undef, undef], defers := [] })
    (fun x a' _ X Y row hs hg hr => by obtain ⟨Bx, h1, h2, h3, h4, h5, h6, h7, hlast⟩ := hs; exact ⟨Bx, h1, cell_kept h2 hg (fun r e => (hr r e).2), cell_kept h3 hg (fun r e => (hr r e).2), cell_kept h4 hg (fun r e => (hr r e).2), cell_kept h5 hg (fun r e => (hr r e).2), cell_kept h6 hg (fun r e => (hr r e).2), cell_kept h7 hg (fun r e => (hr r e).2), hlast⟩)
    ?assign ?body ?done ?stop
  case seq =>
    intro lp J Jx W hW _ _ hY h0
    refine back1_ev 5 (by omega) lp (w.heap.size + 3) (w.heap.size + 4) (w.heap.size + 1) c A l hl (by omega) (by omega) J Jx hY W ((hW.cell (p := ⟨w.heap.size + 3, 0, none⟩) (by show w.heap.size + 3 < _; omega)).trans hc3) ?_ h0
    intro i hi
    obtain ⟨b, off, e, hb, hcc⟩ := hr.at_ (k := 6) (fun _ => rfl) (by omega) hi
    have hbW : Below w.heap.size w W := hB0.trans (hW.mono (by omega))
    rw [getElem!_pos l i hi] at hcc
    exact ⟨b, off, e, by omega, by omega, (hbW.cell (p := ⟨b, off + i * 6, none⟩) hb).trans (hcc 0 _ rfl), (hbW.cell (p := ⟨b, off + i * 6 + 1, none⟩) hb).trans (hcc 1 _ rfl), (hbW.cell (p := ⟨b, off + i * 6 + 2, none⟩) hb).trans (hcc 2 _ rfl), (hbW.cell (p := ⟨b, off + i * 6 + 3, none⟩) hb).trans (hcc 3 _ rfl), (hbW.cell (p := ⟨b, off + i * 6 + 4, none⟩) hb).trans (hcc 4 _ rfl), (hbW.cell (p := ⟨b, off + i * 6 + 5, none⟩) hb).trans (hcc 5 _ rfl)⟩
  case kb =>
    intro W lq o o' h1 h2 h3 h4 k hk _
    exact (belowK_b (w := W0) (n₀ := w.heap.size + 4) (by omega) W lq o o' h1 h2 h3 h4).block k hk
  case assign =>
    rintro lp pre x W K hi hK
    have hzW := hi.2.2
    gi_wp2
    exact hK _ _ ((KeepsOthers.alloc _ _).from _) (fun k hk _ => Below.heap_alloc W _ k (by omega)) (hi.alloc _) ⟨W.heap.size, by omega, by simp, by simp, by simp, by simp, by simp, by simp, rfl⟩
  case body =>
    rintro lp pre x a' W hlp _ hi ⟨Bx, hBx, x0, x1, x2, x3, x4, x5, rfl⟩ hlt
    have hmx : Try.prog.follows .mixedOrders = true := by kernel_rfl
    have hkey := keyS (hs l[x] (List.getElem_mem _))
    have HL : Hid ((fun i : Fin l.length => litS l[i].name) x = litS l[x].name) := rfl
    have hi' := hi
    obtain ⟨⟨cK, cM, D, hown, hf⟩, hB, hBz⟩ := hi'
    generalize l[x] = p at *
    have hxl := x.isLt
    have hsB := hB.size
    have hMl := hown.lt
    have hM2 : w.heap.size + 2 < W.heap.size := World.block_lt_of_cell? _ _ cM
    have hM3 : w.heap.size + 1 + 1 < W.heap.size := hM2
    have hBxl : Bx < W.heap.size := World.block_lt_of_cell? _ _ x0
    obtain ⟨w1, hrun1, hown1, hgrow1⟩ := World.ownsMap.update (w := (W.alloc (.cells #[.string p.name, .string p.group, .string p.role, .bool p.inn, .bool p.done, .int .i64 p.due] 58)).drew) (val := .int .i64 (x.val : Int)) ((hown.alloc _).drew) lawS Try.underlying65 (by unfold maxLen; omega) hkey (plainElem_int Try.underlying3 (WalkArith.wf_i64 (by omega)))
    have hrun2 : (Instr.mapUpdate 65 (.map (some (w.heap.size + 1))) (.string p.name) (.int .i64 (x.val : Int))).run Try.prog (W.drew.alloc (.cells #[.string p.name, .string p.group, .string p.role, .bool p.inn, .bool p.done, .int .i64 p.due] 58)) = .ok () w1 := hrun1
    have HFIN := fun a => Lib.hid (FI.step hz0 hi (((Below.refl _ W).alloc (Nat.le_refl _) _).drew) ((KeepsOthers.alloc W _).trans (KeepsOthers.drew _)) hown hf hown1 hgrow1 HL.out (lawS.key hkey) a)
    clear hown1 hgrow1 hf hi hown
    gi_wp2
    gi_region_with_o (refine ⟨trivial, ?_⟩; gi_at_call 56; refine (CallsIn.inRound lp (callsIn_wide.2 (key_ev p _))).mono ?_; rintro e w' ⟨rfl, rfl⟩)
    all_goals gi_wp2
    all_goals exact (HFIN _).out
  case done =>
    rintro D ys W hD rfl hi hK
    have cM := hi.1.2.1
    have HF := Lib.hid (FI.done (w := w) (key := fun p : Ev => litS p.name) (o' := .deferred none) (by omega) hi hK)
    clear hi
    gi_wp2
    refine ⟨by simp, .inl ⟨_, _, rfl, run_takeDeferred hK, ?_⟩⟩
    exact ⟨_, results_tmp rfl _ _ _, _, rfl, HF.out⟩
  case stop =>
    rintro D c pre W _ _ h _
    exact h.elim
end Go.Proofs.Ytahhhhacoigpmaa
