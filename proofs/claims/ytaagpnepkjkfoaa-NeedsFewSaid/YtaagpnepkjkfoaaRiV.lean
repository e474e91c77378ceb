/-
  A region in a round that draws its order; slices.Backward at ints as an iterator.
-/
import Derived.Test.YtaagpnepkjkfoaaRiY
import Derived.StillTailTactics
namespace Go.Proofs.Ytaagpnepkjkfoaa.R6
open Go Go.RowKit Go.Shelf Go.Proofs.Ytaagpnepkjkfoaa.B
attribute [local go_sem] Oper.semAt_some

def noDefer (l : List Oper) : Bool := l.all fun o => match o.op with | .defer _ => false | _ => true
theorem noDefer_at {l : List Oper} (h : noDefer l = true) {i : Nat} {o : Oper} (ho : l.toArray[i]? = some o) : ∀ c, o.op ≠ .defer c := by
  intro c e
  have hm : o ∈ l := by
    rw [List.getElem?_toArray] at ho
    exact List.mem_of_getElem? ho
  have := List.all_eq_true.1 h o hm
  simp [e] at this
theorem op_round {lp n : Nat} {P : Program} {o : Oper} {a : Act} {w : World} {K K1 K2 : Act → World → Prop} (hd : ∀ c, o.op ≠ .defer c) (hK : ∀ a w, K1 a w → K2 a w) (h : o.wp P a w K1 (Exit.then K (fun _ _ _ => False))) :
    o.wpIn (Fence.wide.inRound lp) n P a w K2 (Exit.then K (fun _ _ _ => False)) := by
  refine ⟨fun _ _ => trivial, ?_⟩
  show o.uponIn _ n P a K2 _ ((o.semAt (some lp) a.eval).run P w)
  rw [Oper.semAt_some lp _ _ hd]
  unfold Oper.wp at h
  generalize (execOp a.eval o).run P w = r at *
  cases r with
  | ok x w' =>
    cases x with
    | value v => exact hK _ _ h
    | skip => exact hK _ _ h
    | defer d => exact hK _ _ h
    | enter f args =>
      refine ⟨fun e => (by cases e), CallsIn.inRound lp (callsIn_wide.2 (Calls.mono h ?_))⟩
      intro e w'' he
      cases e with
      | returned v => exact hK _ _ he
      | panicked ch => exact he
      | outgrown => exact he
    | row row args =>
      refine ⟨fun e => (by cases e), fun c cs _ => ?_⟩
      obtain ⟨v, w'', r, s⟩ := h c cs
      exact ⟨v, w'', hK _ _ r, stepsIn_wide.2 s⟩
    | _ => exact h.elim
  | halt x w' =>
    cases x <;> first | exact h | exact h.elim
theorem any_round {lp n : Nat} {P : Program} {md : Region.Mode} {l : List Oper} {K : Act → World → Prop} (hd : noDefer l = true) : ∀ (f : Nat) (listed : Array Bool) (a : Act) (w : World), wpAny P md l.toArray (Exit.then K (fun _ _ _ => False)) f listed a w → wpAnyIn (Fence.wide.inRound lp) n P md l.toArray (Exit.then K (fun _ _ _ => False)) f listed a w
  | 0, _, _, _, h => h
  | f + 1, listed, a, w, h => by
    refine ⟨h.1, fun i hi => ?_⟩
    have h2 := h.2 i hi
    have ih := fun a w => any_round (lp := lp) (n := n) (P := P) (md := md) (K := K) hd f (listed.setIfInBounds i true) a w
    unfold wpOp at h2
    unfold wpOpIn
    cases ho : l.toArray[i]? with
    | none => rw [ho] at h2; exact ih _ _ h2
    | some o =>
      rw [ho] at h2
      simp only at h2 ⊢
      by_cases hw : Region.wanted o (yielded l.toArray a.tmps) = true
      · rw [if_pos hw] at h2 ⊢
        rcases h2 with h2 | ⟨_, _, _, h3⟩
        · exact op_round (noDefer_at hd ho) ih h2
        · exact h3.elim
      · rw [if_neg hw] at h2 ⊢
        exact ⟨fun _ _ => trivial, ih _ _ h2⟩
theorem wpIn_round_still_tail {lp m id : Nat} {P : Program} {K : Act → World → Prop} {a : Act} {w : World} {l : List Oper} (n : Nat) (hm : P.follows .mixedOrders = true) (hB : Region.lexTailB .any l.toArray n = true) (hd : noDefer l = true)
    (h : wpStill P l.toArray w.drew (fun a' => wpList P l.toArray (Exit.then K (fun _ _ _ => False)) (l.drop n) a' w.drew) (l.take n) a) : (Code.region id l.toArray true).wpIn (Fence.wide.inRound lp) m P (Exit.then K (fun _ _ _ => False)) a w := by
  simp only [Region.lexTailB, Bool.and_eq_true, decide_eq_true_eq] at hB
  obtain ⟨⟨⟨⟨hsel, hn⟩, hs⟩, hc⟩, hlex⟩ := hB
  have hn' : n < l.length := by simpa using hn
  have htl : (l.take n).length = n := by simp; omega
  have hdl : (l.drop n).length = l.toArray.size - n := by simp
  have inv0 : HeadInv .any l.toArray n (Array.replicate l.toArray.size false) :=
    ⟨by simp, fun j oj _ hl => (by rw [getD_replicate_false] at hl; cases hl), fun t _ ht => getD_in (by simpa using ht) (getD_replicate_false _ _)⟩
  have H := wpAnyL_lex (md := .any) (g := l.toArray.size - n) hsel hs hc hn (l.take n) 0 _ a (fun j hj => by
    have hj' : j < n := by rw [htl] at hj; exact hj
    simp [hj']) (by simpa using htl) inv0 (by rw [htl]; exact hlex) h
  refine wpIn_region_any hm ?_
  have := wpAny_of_head (Q' := Exit.then K (fun _ _ _ => False)) (g := l.toArray.size - n) (fun listed a' hL => by
    have := wpAny_of_seq (md := .any) (Q' := Exit.then K (fun _ _ _ => False)) (l.drop n) n listed a' w.drew (fun j => by simp [List.getElem?_drop]) (by rw [hdl]; exact hL.1) hL.2
    rwa [hdl] at this) _ _ _ H
  rw [htl, show n + (l.toArray.size - n) = l.toArray.size by omega] at this
  exact any_round hd _ _ _ _ this

theorem down_step {n q : Nat} (h : q < n) : ((List.finRange n).drop q).reverse = ((List.finRange n).drop (q + 1)).reverse ++ [⟨q, h⟩] := by
  rw [List.drop_eq_getElem_cons (by simpa using h), List.reverse_cons]
  simp
set_option maxHeartbeats 400000 in
theorem back_any (n : Nat) (A : Option Addr) (len c : Nat) (w : World) :
    CallsIn Fence.wide n Try.prog 46 #[.slice A len c] w fun e w' => e = .returned (.func (.func 73) #[] #[pt w.heap.size]) ∧ w' = w.alloc (.cells #[.slice A len c] 26) := by
  refine callsIn_of_wp Try.func46 rfl trivial ?_ rfl
  simp only [Try.ntmps46, List.size_toArray, List.length_cons, List.length_nil, Nat.reduceAdd, Nat.reduceSub, Array.replicate_succ, Array.replicate_zero, List.push_toArray, List.append_toArray, List.nil_append, List.cons_append]
  gi_wp2
  go_ret
  exact ⟨rfl, rfl⟩
set_option maxRecDepth 100000 in
set_option maxHeartbeats 2000000 in
theorem back_seq {W0 : World} {A : Option Addr} {c : Nat} {l : List Nat} (hll : l.length ≤ 1000000) (n : Nat) (h3 : 3 ≤ n) (bo : Nat) (n₀ : Nat) (M : Nat → Prop) (hx0 : W0.heap[bo]? = some (.cells #[.slice A l.length c] 26 (0, 0))) (hlt : bo < n₀) (hm0 : ¬ M bo)
    (hc : ∀ i : Nat, i < l.length → ∃ b off, A = some ⟨b, off, none⟩ ∧ b < n₀ ∧ b < W0.heap.size ∧ ¬ M b ∧ W0.cell? ⟨b, off + i, none⟩ = some (iv l[i]!)) :
    SeqStopsK Fence.wide n Try.prog 73 #[pt bo] (fun x : Fin l.length => #[.int .i64 (x.val : Int), iv l[x.val]!]) (Kps n₀ M) (fun ys => ys = (List.finRange l.length).reverse) (fun _ => True) l.length W0 := by
  intro lp J Jx W hW _ _ hY hJ0
  show CallsIn Fence.wide n Try.prog 73 #[.func (.yield lp) #[] #[], pt bo] W _
  have hbx0 : W.cell? ⟨bo, 0, none⟩ = some (.slice A l.length c) := cell_blk (i := 0) ((hW.block bo (blk_lt hx0)).trans hx0) rfl
  have HW := Lib.hid hW
  have HY := Lib.hid hY
  have HC := Lib.hid hc
  have HM0 := Lib.hid hm0
  have HX := Lib.hid hbx0
  have h1n : 1 ≤ n := by omega
  have h2n : 1 ≤ n - 1 := by omega
  clear hW hY hc hm0 hx0
  refine callsIn_of_wp Try.func73 rfl trivial ?_ rfl
  simp only [Try.ntmps73, List.size_toArray, List.length_cons, List.length_nil, Nat.reduceAdd, Nat.reduceSub, Array.replicate_succ, Array.replicate_zero, List.push_toArray, List.append_toArray, List.nil_append, List.cons_append]
  gi_wp2
  clear hbx0
  gi_loopw [3] (fun i wr => ∃ (q : Nat) (z : Int), q ≤ l.length ∧ z = (q : Int) - 1 ∧ i = .int .i64 z ∧ J ((List.finRange l.length).drop q).reverse wr ∧ Hid (Kps n₀ M W wr))
    (fun i _ => (intOf i + 1).toNat)
  case atStart => exact ⟨l.length, _, Nat.le_refl _, rfl, rfl, by rw [List.drop_eq_nil_of_le (by simp)]; exact hJ0, Lib.hid (Kps.refl _ _ _)⟩
  case round =>
    clear hJ0
    obtain ⟨q, z, hq, hz, rfl, hJs, HK⟩ := hrel
    cases q with
    | zero =>
      obtain rfl : z = -1 := by omega
      clear hz
      gi_wp2
      go_end0
      exact ⟨⟨_, rfl⟩, .inl ⟨_, by rw [List.drop_zero], hJs⟩⟩
    | succ q =>
      obtain rfl : z = (q : Int) := by omega
      clear hz
      have hlt2 : q < l.length := hq
      obtain ⟨b, off, rfl, hb, hbz, hbm, c0⟩ := HC.out q hlt2
      rw [← HW.out.cell (p := ⟨b, off + q, none⟩) hbz, ← HK.out.cell (p := ⟨b, off + q, none⟩) hb hbm] at c0
      have cB := HX.out
      rw [← HK.out.cell (p := ⟨bo, 0, none⟩) hlt HM0.out] at cB
      obtain ⟨fn, tmps, assign, body, hy, hR⟩ := HY.out _ ⟨q, hlt2⟩ wr hJs (by simp; omega)
      dsimp only at hy
      have HRX := Lib.hid hR
      have HDS := Lib.hid (down_step hlt2)
      have hq0 : (0 : Int) ≤ (q : Int) := Int.natCast_nonneg _
      have hq1 : (q : Int) < (l.length : Int) := by omega
      clear hR HC
      generalize l[q]! = lq at *
      gi_wp2
      refine HRX.out.mono ?_
      rintro e W3 (⟨rfl, hJ3, hk3⟩ | ⟨rfl, hJx3⟩)
      · gi_wp2
        go_roundw
        case rel => exact ⟨q, _, by omega, rfl, by go_num, by rw [HDS.out]; exact hJ3, Lib.hid (HK.out.trans hk3)⟩
        case measure => simp [intOf]
      · gi_wp2
        refine bodyPost_ret (results_none rfl _ _ _) rfl ?_
        exact ⟨⟨_, rfl⟩, .inr ⟨_, trivial, hJx3⟩⟩
end Go.Proofs.Ytaagpnepkjkfoaa.R6
