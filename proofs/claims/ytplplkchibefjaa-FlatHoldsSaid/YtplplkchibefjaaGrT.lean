/-
  Contract of the closure by which Check tells what is wrong first.
-/
import Derived.Test.YtplplkchibefjaaGrD
namespace Go.Proofs.Ytplplkchibefjaa
open Go.RowKit Go.Shelf

theorem tellS_zero (s : St) (part : Nat) (f : Nat → Nat) : tellS s part f 0 = s := by unfold tellS; simp [tellL]
theorem tellS_step {s : St} {part k : Nat} {f : Nat → Nat} (h : (tellS s part f k).2.2 = 0) : tellS s part f (k + 1) = if f k = 0 then tellS s part f k else (part, k, f k) := by
  obtain ⟨h0, hk⟩ := tellS_ok.1 h
  have hn := tellL_none.2 hk
  unfold tellS
  rw [if_pos h0, if_pos h0, hn, tellL, hn]
  by_cases e : f k = 0
  · simp [e]
  · simp [e]
theorem tellL_more {f : Nat → Nat} {x : Nat × Nat} : ∀ {n k : Nat}, tellL f k = some x → k ≤ n → tellL f n = some x
  | 0, k, h, hk => by obtain rfl : k = 0 := by omega
                      exact h
  | n + 1, k, h, hk => by
    by_cases e : k = n + 1
    · rw [← e]; exact h
    · rw [tellL, tellL_more h (by omega : k ≤ n)]
theorem tellS_stop {s : St} {part k n : Nat} {f : Nat → Nat} (h : (tellS s part f k).2.2 ≠ 0) (hk : k ≤ n) : tellS s part f n = tellS s part f k := by
  unfold tellS at h ⊢
  by_cases h0 : s.2.2 = 0
  · rw [if_pos h0] at h
    rw [if_pos h0, if_pos h0]
    cases hx : tellL f k with
    | none => rw [hx] at h; exact absurd h0 h
    | some x => rw [tellL_more hx hk]
  · rw [if_neg h0, if_neg h0]

/-- All but two blocks are as they were. -/
structure Kx (Be Bp : Nat) (w w' : World) : Prop where
  os : w'.os = w.os
  tape : w'.tape = w.tape
  output : w'.output = w.output
  size : w.heap.size ≤ w'.heap.size
  block : ∀ k, k < w.heap.size → k ≠ Be → k ≠ Bp → w'.heap[k]? = w.heap[k]?
theorem Kx.refl (Be Bp : Nat) (w : World) : Kx Be Bp w w := ⟨rfl, rfl, rfl, Nat.le_refl _, fun _ _ _ _ => rfl⟩
theorem Kx.trans {Be Bp : Nat} {a b c : World} (h : Kx Be Bp a b) (k : Kx Be Bp b c) : Kx Be Bp a c :=
  ⟨k.os.trans h.os, k.tape.trans h.tape, k.output.trans h.output, Nat.le_trans h.size k.size, fun i hi h1 h2 => (k.block i (Nat.lt_of_lt_of_le hi h.size) h1 h2).trans (h.block i hi h1 h2)⟩
theorem Kx.of_below {Be Bp : Nat} {a b : World} (h : Below a.heap.size a b) : Kx Be Bp a b := ⟨h.os, h.tape, h.output, h.size, fun i hi _ _ => h.block i hi⟩
theorem Kx.setCell {Be Bp : Nat} (w : World) {p : Addr} (u : Value) (h : p.block = Be ∨ p.block = Bp) : Kx Be Bp w (w.setCell p u) :=
  ⟨rfl, rfl, rfl, by simp [World.setCell], fun k _ h1 h2 => Below.heap_setCell _ _ _ _ (fun e => by rcases h with h | h; exact h1 (e.trans h); exact h2 (e.trans h))⟩
/-- What has been told so far. -/
structure TS (Be Bp : Nat) (w : World) (s : St) : Prop where
  e : w.heap[Be]? = some (.cells #[.int .i64 (s.2.2 : Int)] 33 (0, 0))
  p : w.heap[Bp]? = some (.cells #[.int .i64 (s.1 : Int), .int .i64 (s.2.1 : Int)] 91 (0, 0))
theorem cell_blk {w : World} {b i : Nat} {cs : Array Value} {t : TypeId} {v : Value} (h : w.heap[b]? = some (.cells cs t (0, 0))) (hi : cs[i]? = some v) : w.cell? ⟨b, i, none⟩ = some v := by
  unfold World.cell?; simp only; rw [h]; exact hi
theorem frozen_blk {w : World} {b i : Nat} {cs : Array Value} {t : TypeId} (h : w.heap[b]? = some (.cells cs t (0, 0))) : w.frozen? ⟨b, i, none⟩ = false := by
  unfold World.frozen?; simp only; rw [h]; simp
theorem blk_set {w : World} {b i : Nat} {cs : Array Value} {t : TypeId} {v : Value} (h : w.heap[b]? = some (.cells cs t (0, 0))) : (w.setCell ⟨b, i, none⟩ v).heap[b]? = some (.cells (cs.setIfInBounds i v) t (0, 0)) := by
  simp [World.setCell, Array.getElem?_modify, h]
theorem blk_other {w : World} {b c i : Nat} {v : Value} (h : c ≠ b) : (w.setCell ⟨b, i, none⟩ v).heap[c]? = w.heap[c]? := Below.heap_setCell _ _ _ _ h

theorem TS.below {Be Bp : Nat} {w w' : World} {s : St} (h : TS Be Bp w s) (hb : Below w.heap.size w w') : TS Be Bp w' s :=
  ⟨(hb.block _ (Array.getElem?_eq_some_iff.1 h.e).1).trans h.e, (hb.block _ (Array.getElem?_eq_some_iff.1 h.p).1).trans h.p⟩
theorem TS.set_e {Be Bp : Nat} {w : World} {s : St} (h : TS Be Bp w s) (hne : Be ≠ Bp) (c : Nat) : TS Be Bp (w.setCell ⟨Be, 0, none⟩ (.int .i64 (c : Int))) (s.1, s.2.1, c) :=
  ⟨by rw [blk_set h.e]; rfl, by rw [blk_other (Ne.symm hne)]; exact h.p⟩
theorem TS.set_p {Be Bp : Nat} {w : World} {s : St} (h : TS Be Bp w s) (hne : Be ≠ Bp) (p a : Nat) : TS Be Bp ((w.setCell ⟨Bp, 0, none⟩ (.int .i64 (p : Int))).setCell ⟨Bp, 1, none⟩ (.int .i64 (a : Int))) (p, a, s.2.2) :=
  ⟨by rw [blk_other hne, blk_other hne]; exact h.e, by rw [blk_set (blk_set h.p)]; rfl⟩

set_option maxRecDepth 100000 in
set_option maxHeartbeats 2000000 in
theorem tell_any (w : World) (Be Bp L fl part n : Nat) (f : Nat → Nat) (s : St) (hne : Be ≠ Bp) (hs : TS Be Bp w s) (hn : n ≤ 140737488351232) (eg : ∀ args w, (callFunc fl args).run Try.prog w = .ok (.enter fl args) w)
    (hcall : ∀ (W : World) (i : Nat), s.2.2 = 0 → Kx Be Bp w W → i < n → Calls Try.prog fl #[.pointer (some ⟨L, 0, none⟩), .int .i64 i] W fun e W' => e = .returned (.int .i64 (f i)) ∧ Below W.heap.size W W') :
    Calls Try.prog 75 #[.int .i64 part, .int .i64 n, .func (.func fl) #[.pointer (some ⟨L, 0, none⟩)] #[], .pointer (some ⟨Be, 0, none⟩), .pointer (some ⟨Bp, 0, none⟩)] w fun e w' =>
      (∃ v, e = .returned v) ∧ TS Be Bp w' (tellS s part f n) ∧ Kx Be Bp w w' := by
  have HC := Lib.hid hcall
  clear hcall
  go_enter Try.func75, Try.ntmps75
  go_wp2_with fail
  go_loopw [8] (fun i wr => ∃ k : Nat, k ≤ n ∧ i = .int .i64 k ∧ TS Be Bp wr (tellS s part f k) ∧ Kx Be Bp w wr) (fun i _ => n - (intOf i).toNat)
  case atStart => exact ⟨0, Nat.zero_le _, rfl, by rw [tellS_zero]; exact hs, Kx.refl _ _ _⟩
  case round =>
    obtain ⟨k, hk, rfl, ht, hx⟩ := hrel
    have cE := cell_blk (i := 0) ht.e rfl
    have fE := frozen_blk (i := 0) ht.e
    by_cases hlt : k < n
    · by_cases h0 : (tellS s part f k).2.2 = 0
      · have hst := tellS_step h0
        have C := Lib.hid (HC.out wr k (tellS_ok.1 h0).1 hx hlt)
        rw [h0] at cE
        have HT := Lib.hid ht
        have HX := Lib.hid hx
        have HS := Lib.hid hst
        have H0 := Lib.hid h0
        have cz := hx.size
        clear ht hx hst h0
        have hz0 : (((0 : Nat) : Int)) = 0 := rfl
        by_cases hf : f k = 0
        · rw [hf] at C HS
          rw [if_pos rfl] at HS
          clear hf
          go_wp2_with fail
          refine C.out.mono ?_
          rintro e w1 ⟨rfl, hb1⟩
          have ht1 := HT.out.below hb1
          have cE1 := cell_blk (i := 0) ht1.e rfl
          have fE1 := frozen_blk (i := 0) ht1.e
          have HT2 := Lib.hid (ht1.set_e hne 0)
          have HX2 := Lib.hid ((HX.out.trans (Kx.of_below hb1)).trans (Kx.setCell (Be := Be) (Bp := Bp) w1 (p := ⟨Be, 0, none⟩) (.int .i64 ((0 : Nat) : Int)) (.inl rfl)))
          have HTE : Hid (((tellS s part f k).1, (tellS s part f k).2.1, 0) = tellS s part f k) := Lib.hid (by rw [← H0.out])
          clear ht1 hb1
          go_wp2_with fail
          go_roundw
          case rel => exact ⟨k + 1, hlt, by go_num, by rw [HS.out, ← HTE.out]; exact HT2.out, HX2.out⟩
          case measure => simp [intOf]; omega
        · have hf' : (((f k : Nat) : Int) != 0) = true := by rw [bne_iff_ne]; omega
          rw [if_neg hf] at HS
          clear hf
          generalize f k = c at *
          go_wp2_with fail
          refine C.out.mono ?_
          rintro e w1 ⟨rfl, hb1⟩
          have ht1 := HT.out.below hb1
          have cE1 := cell_blk (i := 0) ht1.e rfl
          have fE1 := frozen_blk (i := 0) ht1.e
          have cP0 := cell_blk (i := 0) ht1.p rfl
          have cP1 := cell_blk (i := 1) ht1.p rfl
          have fP0 := frozen_blk (i := 0) ht1.p
          have fP1 := frozen_blk (i := 1) ht1.p
          have HT2 := Lib.hid ((ht1.set_e hne c).set_p hne part k)
          have HX2 := Lib.hid ((((HX.out.trans (Kx.of_below hb1)).trans (Kx.setCell (Be := Be) (Bp := Bp) w1 (p := ⟨Be, 0, none⟩) (.int .i64 (c : Int)) (.inl rfl))).trans (Kx.setCell _ (p := ⟨Bp, 0, none⟩) (.int .i64 (part : Int)) (.inr rfl))).trans (Kx.setCell _ (p := ⟨Bp, 1, none⟩) (.int .i64 (k : Int)) (.inr rfl)))
          clear ht1 hb1
          go_wp2_with fail
          go_roundw
          case rel => exact ⟨k + 1, hlt, by go_num, by rw [HS.out]; exact HT2.out, HX2.out⟩
          case measure => simp [intOf]; omega
      · have HF := Lib.hid (tellS_stop h0 hk)
        have h0' : (((tellS s part f k).2.2 : Int) == 0) = false := by rw [beq_eq_false_iff_ne]; omega
        go_wp2_with fail
        go_end0
        exact ⟨⟨_, rfl⟩, by rw [HF.out]; exact ht, hx⟩
    · obtain rfl : k = n := by omega
      go_wp2_with fail
      go_end0
      exact ⟨⟨_, rfl⟩, ht, hx⟩
end Go.Proofs.Ytplplkchibefjaa
