/-
  Contract of text.Parse.
-/
import Derived.Test.YtjgcjnkeeiaafaaGreatDoorTcbi
namespace Go.Proofs.YtjgcjnkeeiaafaaGreatDoor.P3.C
open Go.RowKit Go.Shelf Go.Proofs.YtjgcjnkeeiaafaaGreatDoor.B Go.Proofs.YtjgcjnkeeiaafaaGreatDoor.Lx Go.Proofs.YtjgcjnkeeiaafaaGreatDoor.P3
theorem lexS_most : ∀ (r : List UInt8) (n k : Nat) (l l' : List Tok) (k' : Nat), lexS r n k l = (l', k', 0) → l.length ≤ 5000 → l'.length ≤ 5000
  | [], n, k, l, l', k', h, hl => by simp [lexS] at h; rw [← h.1]; exact hl
  | c :: r, n + 1, k, l, l', k', h, hl => by rw [lexS] at h; exact lexS_most r n (k + 1) l l' k' h hl
  | c :: r, 0, k, l, l', k', h, hl => by
    rw [lexS] at h
    by_cases hg : gapB c = true
    · rw [if_pos hg] at h; exact lexS_most r 0 (k + 1) l l' k' h hl
    · rw [if_neg hg] at h
      cases ht : takeL (c :: r) k with
      | none => rw [ht] at h; simp at h
      | some t =>
        rw [ht] at h
        simp only at h
        by_cases h5 : l.length = 5000
        · rw [if_pos h5] at h; simp at h
        · rw [if_neg h5] at h
          exact lexS_most r _ (k + 1) (l ++ [t]) l' k' h (by simp; omega)
theorem row_app (a b : List Tok) : rowC (a ++ b) = rowC a ++ rowC b := by simp [rowC, List.flatMap_append]
/-- A segment of a row of tokens is a row. -/
theorem seg_row {W : World} {oa : Option Addr} {toks : List Tok} {s : Nat × Nat} {ad : Addr} (h : Toks W oa toks.length toks) (h1 : s.1 ≤ s.2) (h2 : s.2 < toks.length) (hv : s.1 < s.2 → ∃ b off, oa = some ⟨b, off, none⟩ ∧ ad = ⟨b, off + s.1 * 4, none⟩) : Row W (some ad) (rowC (segT toks s)) := by
  intro hne
  by_cases hlt : s.1 < s.2
  · obtain ⟨b, off, e1, rfl⟩ := hv hlt
    obtain ⟨b', off', e2, hb, hc⟩ := h.2 (by omega)
    rw [e1] at e2
    simp only [Option.some.injEq, Addr.mk.injEq] at e2
    obtain ⟨rfl, rfl, _⟩ := e2
    refine ⟨b, off + s.1 * 4, rfl, hb, fun j u hj => ?_⟩
    rw [Nat.add_assoc]
    refine hc _ _ ?_
    have e : toks = toks.take s.1 ++ (segT toks s ++ toks.drop s.2) := by
      unfold segT
      have a1 : toks.take s.1 = (toks.take s.2).take s.1 := by rw [List.take_take, Nat.min_eq_left h1]
      rw [a1, ← List.append_assoc, List.take_append_drop, List.take_append_drop]
    have hlen : (rowC (toks.take s.1)).length = s.1 * 4 := by rw [rowC_length, List.length_take, Nat.min_eq_left (by omega)]
    have e3 : (rowC toks)[s.1 * 4 + j]? = (rowC (toks.take s.1) ++ (rowC (segT toks s) ++ rowC (toks.drop s.2)))[s.1 * 4 + j]? := by rw [← row_app, ← row_app, ← e]
    rw [e3, List.getElem?_append_right (by omega), hlen, Nat.add_sub_cancel_left, List.getElem?_append_left (List.getElem?_eq_some_iff.1 hj).1]
    exact hj
  · exfalso
    apply hne
    have : segT toks s = [] := by
      apply List.eq_nil_of_length_eq_zero
      unfold segT; rw [List.length_drop, List.length_take]; omega
    rw [this]; rfl
theorem chn_len {n : Nat} : ∀ (ss : List (Nat × Nat)) (st : Nat), Chn n st ss → ss.length ≤ n - st
  | [], _, _ => Nat.zero_le _
  | s :: r, st, h => by
    obtain ⟨h1, h2, h3, h4⟩ := h
    have := chn_len r _ h4
    rw [List.length_cons]; omega
/-- The whole, of the statements so far. -/
def WR (ls : List (List B3)) (toks : List Tok) (w3 : World) (bw : Nat) (wr : World) : Prop :=
  ∃ v0 v1 v2 v3 U s, WH w3 bw v0 v1 v2 v3 (gsOf (ls.map stV)) (esOf (ls.map stV)) (rsOf (ls.map stV)) U s (blOf ls toks) wr ∧ U.map usBare = usOf (ls.map stV)
theorem WR.start (toks : List Tok) (w3 : World) : WR [] toks w3 w3.heap.size (w3.alloc (.cells #[nilV, nilV, nilV, nilV, nilV, nilV, nilV, nilV, nilV] 52)) :=
  ⟨nilV, nilV, nilV, nilV, [], fun _ => nilV, ⟨heap_new _ _, World.ownsRow_nil _ _ _ _, World.ownsRow_nil _ _ _ _, World.ownsRow_nil _ _ _ _, World.ownsRow_nil _ _ _ _, (fun u hu => by cases hu), (fun p _ => World.ownsRow_nil _ _ _ _), (fun p q _ _ _ k hk => by cases hk), (Below.refl _ _).alloc (Nat.le_refl _) _, Nat.le_refl _⟩, rfl⟩
theorem WR.lt {ls : List (List B3)} {toks : List Tok} {w3 wr : World} {bw : Nat} (h : WR ls toks w3 bw wr) : bw < wr.heap.size := by
  obtain ⟨v0, v1, v2, v3, U, s, h, _⟩ := h
  exact h.lt
theorem WR.l {ls : List (List B3)} {toks : List Tok} {w3 wr : World} {bw : Nat} (h : WR ls toks w3 bw wr) : Below w3.heap.size w3 wr := by
  obtain ⟨v0, v1, v2, v3, U, s, h, _⟩ := h
  exact h.l
theorem WR.call {ls : List (List B3)} {toks : List Tok} {w3 wr w' : World} {bw : Nat} (h : WR ls toks w3 bw wr) (hb : Below wr.heap.size wr w') : WR ls toks w3 bw w' := by
  obtain ⟨v0, v1, v2, v3, U, s, h, hU⟩ := h
  exact ⟨v0, v1, v2, v3, U, s, h.call hb, hU⟩
theorem len_of (vs : List PartV) : (gsOf vs).length ≤ vs.length ∧ (esOf vs).length ≤ vs.length ∧ (rsOf vs).length ≤ vs.length ∧ (usOf vs).length ≤ vs.length :=
  ⟨List.length_filterMap_le _ _, List.length_filterMap_le _ _, List.length_filterMap_le _ _, List.length_filterMap_le _ _⟩
/-- One more statement. -/
theorem WR.add {ls : List (List B3)} {toks : List Tok} {w3 wr : World} {bw : Nat} (h : WR ls toks w3 bw wr) (hl : ls.length ≤ 1000000) {L : List B3} {z0 z1 z2 z3 : Value} {B : Nat} (hv : PVal B (stV L) z0 z1 z2 z3 wr) (hB : w3.heap.size ≤ B) :
    Calls Tryz.prog 12 #[.pointer (some ⟨bw, 0, none⟩), .agg #[z0, z1, z2, z3], .int .i64 ((locAt toks (szL ls) : Nat) : Int)] wr fun e w' => e = .returned (.tuple #[]) ∧ WR (ls ++ [L]) toks w3 bw w' := by
  obtain ⟨v0, v1, v2, v3, U, s, h, hU⟩ := h
  obtain ⟨l0, l1, l2, l3⟩ := len_of (ls.map stV)
  rw [List.length_map] at l0 l1 l2 l3
  have lU : U.length = (usOf (ls.map stV)).length := by rw [← hU, List.length_map]
  refine (add_any w3 wr bw v0 v1 v2 v3 _ _ _ U s _ (stV L) z0 z1 z2 z3 B _ h hv hB (by omega) (by omega) (by omega) (by omega) (fun p _ => ?_)).mono ?_
  · rw [bl_len]
    have := List.length_filter_le (fun v => partNo v == p) (ls.map stV)
    rw [List.length_map] at this; omega
  · rintro e w' ⟨rfl, a0, a1, a2, a3, s', N, h', hN⟩
    refine ⟨rfl, a0, a1, a2, a3, U ++ N, s', ?_, ?_⟩
    · rw [List.map_append, List.map_singleton, (of_app _ _).1, (of_app _ _).2.1, (of_app _ _).2.2.1]
      have e : blOf (ls ++ [L]) toks = fun i => if i = partNo (stV L) then blOf ls toks i ++ [((locAt toks (szL ls) : Nat) : Int)] else blOf ls toks i := funext fun p => bl_snoc ls toks L p
      rw [e]; exact h'
    · rw [List.map_append, hU, hN, List.map_append, List.map_singleton, (of_app _ _).2.2.2]
theorem PVal.below {B : Nat} {v : PartV} {z0 z1 z2 z3 : Value} {w w1 : World} (h : PVal B v z0 z1 z2 z3 w) (hb : Below w.heap.size w w1) : PVal B v z0 z1 z2 z3 w1 := by
  have hh : ∀ g o, w.heap[g]? = some o → w1.heap[g]? = some o := fun g o ho => (hb.block g (blk_lt ho)).trans ho
  cases v with
  | g n m => obtain ⟨g, h1, h2, h3⟩ := h; exact ⟨g, h1, hh g _ h2, h3⟩
  | e v => obtain ⟨g, h1, h2, h3⟩ := h; exact ⟨g, h1, hh g _ h2, h3⟩
  | r v => obtain ⟨g, h1, h2, h3⟩ := h; exact ⟨g, h1, hh g _ h2, h3⟩
  | u v => obtain ⟨g, r, h1, h2, h3, h4⟩ := h; exact ⟨g, r, h1, hh g _ h2, h3, Go.Proofs.YtjgcjnkeeiaafaaGreatDoor.B.own_below h4 hb⟩
theorem own_set4 {W : World} {B e z n q : Nat} {v : Value} {xs : List Value} {cs : List Value} {T : TypeId} (h : W.ownsRow B e z v n xs) (hf : W.heap[q]? = some (.cells cs.toArray T (0, 0))) (hne : e ≠ T) (a b c d : Value) : (set4 W q a b c d).ownsRow B e z v n xs := by
  cases hv : v.ownBlock with
  | none => exact h.kept (grown4 W q a b c d) (.inl hv)
  | some k => exact h.kept (grown4 W q a b c d) (.inr (fun e => own_far h hf hne e))
/-- A graph of the call's own, of these parts. -/
def GrO (B : Nat) (vs : List PartV) (v0 v1 v2 v3 : Value) (W : World) : Prop :=
  ∃ U : List Us, U.map usBare = usOf vs ∧ W.ownsRow B 37 2 v0 (gsOf vs).length ((gsOf vs).flatMap gpC) ∧ W.ownsRow B 40 6 v1 (esOf vs).length ((esOf vs).flatMap evC) ∧
    W.ownsRow B 42 4 v2 (rsOf vs).length ((rsOf vs).flatMap rlC) ∧ W.ownsRow B 74 3 v3 U.length (U.flatMap usC) ∧ ∀ u ∈ U, W.ownsRow B 9 1 (.slice u.ra u.roles.length u.rc) u.roles.length (u.roles.map Value.string)
/-- What Parse hands back. -/
def PsA (a : List PartV × Nat × Nat) (w : World) (e : Ending) (w' : World) : Prop :=
  Below w.heap.size w w' ∧ if a.2.2 = 0 then ∃ v0 v1 v2 v3, e = .returned (.tuple #[.agg #[v0, v1, v2, v3], .int .i64 0, .int .i64 0]) ∧ GrO w.heap.size a.1 v0 v1 v2 v3 w'
    else e = .returned (.tuple #[grZ, .int .i64 (a.2.1 : Int), .int .i64 (a.2.2 : Int)])
theorem psA_err {a : List PartV × Nat × Nat} {w w' : World} {k c : Nat} (h : a = ([], k, c)) (hc : c ≠ 0) (hb : Below w.heap.size w w') : PsA a w (.returned (.tuple #[grZ, .int .i64 (k : Int), .int .i64 (c : Int)])) w' := by
  subst h
  exact ⟨hb, by rw [if_neg hc]⟩
set_option maxRecDepth 100000 in
set_option maxHeartbeats 8000000 in
theorem parse_any (s : ByteArray) (w : World) (hs : s.size ≤ 140737488351232) : Calls Tryz.prog 5 #[.string s] w (PsA (parseL s.data.toList) w) := by
  obtain ⟨W0, hW0⟩ : ∃ W0, W0 = w.alloc (.cells #[nilV, nilV, nilV, nilV] 28) := ⟨_, rfl⟩
  have CL := Lib.hid (lex_any s W0 hs)
  have HX := Lib.hid (show W0.heap[w.heap.size]? = some (.cells #[nilV, nilV, nilV, nilV] 28 (0, 0)) by rw [hW0]; exact heap_new _ _)
  have HB0 := Lib.hid (show Below w.heap.size w W0 by rw [hW0]; exact (Below.refl _ _).alloc (Nat.le_refl _) _)
  have hsz0 : W0.heap.size = w.heap.size + 1 := by rw [hW0, World.size_alloc]
  have HM := Lib.hid (lexS_most s.data.toList 0 0 [])
  have HSL : Hid (s.data.toList.length ≤ 140737488351232) := Lib.hid (by rw [Array.length_toList]; exact hs)
  have HA := Lib.hid (show parseL s.data.toList = if (lexL s.data.toList).2.2 = 0 then tellT (lexL s.data.toList).1 else ([], (lexL s.data.toList).2.1, (lexL s.data.toList).2.2) from rfl)
  have HR : Hid (lexS s.data.toList 0 0 [] = lexL s.data.toList) := Lib.hid rfl
  generalize parseL s.data.toList = A at *
  generalize lexL s.data.toList = r at *
  obtain ⟨toks, k1, c1⟩ := r
  subst hW0
  clear hs
  go_enter Tryz.func5, Tryz.ntmps5
  go_wp2_with fail
  refine CL.out.mono ?_
  rintro e w1 ⟨v1, rfl, hown, hb1⟩
  obtain ⟨ao, ac, rfl⟩ := Go.Proofs.YtjgcjnkeeiaafaaGreatDoor.B.own_slice hown
  have hx1 := (hb1.block _ (blk_lt HX.out)).trans HX.out
  have HBB := Lib.hid (HB0.out.trans (hb1.mono HB0.out.size))
  have y0 := cell_blk (i := 0) hx1 rfl
  have y1 := cell_blk (i := 1) hx1 rfl
  have y2 := cell_blk (i := 2) hx1 rfl
  have y3 := cell_blk (i := 3) hx1 rfl
  have f0 := frozen_blk (i := 0) hx1
  have f1 := frozen_blk (i := 1) hx1
  have f2 := frozen_blk (i := 2) hx1
  have f3 := frozen_blk (i := 3) hx1
  have HX1 := Lib.hid hx1
  have hlx := blk_lt hx1
  have HO := Lib.hid hown
  clear CL HX HB0 hown hb1 hx1 hsz0
  simp only at *
  by_cases h0 : c1 = 0
  · subst h0
    have hlt : toks.length ≤ 5000 := HM.out toks k1 HR.out (by simp)
    have HE : Hid (A = tellT toks) := Lib.hid (by rw [HA.out, if_pos rfl])
    have CS := Lib.hid (statements_any ao ac toks w1 (Toks.of_own HO.out) (by omega))
    have HGT := Lib.hid (lexS_good s.data.toList.length s.data.toList 0 0 [] toks k1 HR.out (Nat.le_refl _) (fun t ht => by cases ht))
    clear HA HM HR
    go_wp2_with fail
    refine CS.out.mono ?_
    rintro e w2 ⟨hb2, hcase⟩
    have hx2 := (hb2.block _ hlx).trans HX1.out
    have HB2 := Lib.hid (HBB.out.trans (hb2.mono HBB.out.size))
    have HT := Lib.hid ((Toks.of_own HO.out).below hb2)
    have hlx2 := blk_lt hx2
    clear y0 y1 y2 y3 f0 f1 f2 f3 HX1 HBB hlx HO CS hb2
    have y0 := cell_blk (i := 0) hx2 rfl
    have y1 := cell_blk (i := 1) hx2 rfl
    have y2 := cell_blk (i := 2) hx2 rfl
    have y3 := cell_blk (i := 3) hx2 rfl
    have f0 := frozen_blk (i := 0) hx2
    have f1 := frozen_blk (i := 1) hx2
    have f2 := frozen_blk (i := 2) hx2
    have f3 := frozen_blk (i := 3) hx2
    have HX2 := Lib.hid hx2
    clear hx2
    rcases hcase with ⟨t, ht, rfl⟩ | ⟨hend, v, vs, oa, oc, rfl, hvs, hsv, hcl⟩
    · have HE2 : Hid (A = ([], t.loc, 2)) := Lib.hid (by
        rw [HE.out]
        unfold tellT
        rw [split_all, if_neg]
        · unfold locAt; rw [ht]
        · intro h
          have h1 := congrArg List.length h
          rw [List.length_map, List.length_drop] at h1
          have := (List.getElem?_eq_some_iff.1 ht).1
          simp at h1; omega)
      clear HE HT ht
      go_wp2_with fail
      obtain ⟨w5, hw5⟩ : ∃ w5, w5 = set4 w2 w.heap.size nilV nilV nilV nilV := ⟨_, rfl⟩
      have e5 := blk4 HX2.out nilV nilV nilV nilV
      have b4 := below_set4 HB2.out (Nat.le_refl _) nilV nilV nilV nilV
      rw [← hw5] at e5 b4
      unfold set4 at hw5
      rw [← hw5]
      have x0 := cell_blk (i := 0) e5 rfl
      have x1 := cell_blk (i := 1) e5 rfl
      have x2 := cell_blk (i := 2) e5 rfl
      have x3 := cell_blk (i := 3) e5 rfl
      exact bodyPost_ret (v := .tuple #[grZ, .int .i64 (t.loc : Int), .int .i64 2]) (by simp [results, Tryz.results5, go_sem, x0, x1, x2, x3]) rfl (psA_err HE2.out (by decide) b4)
    · obtain ⟨va, vc, rfl⟩ := Go.Proofs.YtjgcjnkeeiaafaaGreatDoor.B.own_slice hvs
      obtain ⟨ls, hls⟩ : ∃ ls, ls = (segS toks 0 0).1.map fun s => (segT toks s).map bare := ⟨_, rfl⟩
      have HE2 : Hid (A = goodL ls toks) := Lib.hid (by
        rw [HE.out]
        unfold tellT
        rw [split_all, if_pos (by rw [List.drop_eq_nil_of_le hend]; rfl), hls]
        rfl)
      have hch : Chn toks.length 0 (segS toks 0 0).1 := by have := seg_chn toks 0 0 (Nat.le_refl _); rw [Nat.zero_add] at this; exact this
      have hn1 := chn_len _ _ hch
      have hln : ls.length = vs.length := by rw [hls, List.length_map, hsv.1]
      have hvn : vs.length ≤ 5000 := by rw [hsv.1]; omega
      have HK := Lib.hid (fun (k : Nat) (hk : k < vs.length) => show ∃ (s : Nat × Nat) (ad : Addr), vs[k]? = some (.slice (some ad) (segT toks s).length (segT toks s).length) ∧ ls[k]? = some ((segT toks s).map bare) ∧ szL (ls.take k) + (segT toks s).length < toks.length ∧ Row w2 (some ad) (rowC (segT toks s)) from by
        obtain ⟨s, hs⟩ : ∃ s, (segS toks 0 0).1[k]? = some s := ⟨_, List.getElem?_eq_getElem (by rw [← hsv.1]; exact hk)⟩
        obtain ⟨v, hv, ad, rfl, hadv⟩ := hsv.2 k s hs
        obtain ⟨a1, a2, a3, a4⟩ := chn_at toks _ 0 k s hch hs
        refine ⟨s, ad, by rw [hv, a4], by rw [hls, List.getElem?_map, hs]; rfl, by rw [hls]; omega, seg_row (Toks.of_own hcl) a2 a3 hadv⟩)
      have HV := Lib.hid (Row.of_own hvs)
      have HLN := Lib.hid hln
      have hls0 : Hid (∀ L ∈ ls, ∃ s, L = (segT toks s).map bare) := Lib.hid (by
        intro L hL
        rw [hls] at hL
        obtain ⟨s, _, rfl⟩ := List.mem_map.1 hL
        exact ⟨s, rfl⟩)
      clear HE hvs hsv hcl hend hch hls hln hn1
      go_wp2_with fail
      go_loopw [10, 42] (fun f i wr => ∃ k : Nat, k ≤ vs.length ∧ f = .int .i64 ((szL (ls.take k) : Nat) : Int) ∧ i = .int .i64 k ∧ Hid ((ls.take k).all (fun l => !(stS l).2) = true) ∧ Hid (WR (ls.take k) toks w2 w2.heap.size wr)) (fun _ i _ => vs.length - (intOf i).toNat)
      case atStart => exact ⟨0, Nat.zero_le _, rfl, rfl, Lib.hid rfl, Lib.hid (WR.start toks w2)⟩
      case round =>
        clear y0 y1 y2 y3 f0 f1 f2 f3
        obtain ⟨k, hk, rfl, rfl, HG, HW⟩ := hrel
        obtain ⟨wo, rfl⟩ : ∃ wo, wo = wr := ⟨wr, rfl⟩
        by_cases hkl : k < vs.length
        · obtain ⟨s, ad, hvk, hlk, hsz, hrow⟩ := HK.out k hkl
          obtain ⟨vb, vo, rfl, hvb, hvc⟩ := HV.out (fun e => by rw [e] at hkl; simp at hkl)
          have hl0 := HW.out.l
          have vk := (hl0.cell (p := ⟨vb, vo + k, none⟩) hvb).trans (hvc k _ hvk)
          have CT := Lib.hid (statement_any wo (some ad) (segT toks s).length (segT toks s) (hrow.below (Nat.le_refl _) hl0) (by omega))
          have HLK := Lib.hid hlk
          have hsz0 := hl0.size
          have hvb' : vb < wo.heap.size := by omega
          clear hvk hlk hrow hvc hl0 hvb
          generalize segT toks s = T at *
          generalize hst : szL (ls.take k) = st at *
          have HST := Lib.hid hst
          clear hst
          go_wp2_with fail
          refine CT.out.mono ?_
          rintro e w4 ⟨hb4, hle, hcase⟩
          rw [List.length_map] at hle
          have hlx4 : w.heap.size < w4.heap.size := by have := hb4.size; omega
          cases hq : (stS (T.map bare)).2 with
          | true =>
            rw [hq, if_pos rfl] at hcase
            obtain ⟨q, hqd⟩ : ∃ q, q = (stS (T.map bare)).1 := ⟨_, rfl⟩
            rw [← hqd] at hle hcase
            subst hcase
            have HE3 : Hid (A = ([], locAt toks (st + q), 2)) := Lib.hid (by
              rw [HE2.out]
              unfold goodL
              rw [bad_at ls 0 k _ HLK.out HG.out hq, HST.out, ← hqd, Nat.zero_add])
            obtain ⟨w5, hw5⟩ : ∃ w5, w5 = w4.alloc (.cells #[nilV, nilV, nilV, nilV] 28) := ⟨_, rfl⟩
            have hb5 : Below wo.heap.size wo w5 := by rw [hw5]; exact hb4.alloc hb4.size _
            have hl5 := HW.out.l.trans (hb5.mono HW.out.l.size)
            have hx5 := (hl5.block _ hlx2).trans HX2.out
            obtain ⟨b2, o2, t, tx, rfl, hbt, htk, htx, d0, d1, d2, d3⟩ := (HT.out.below hl5).at_ (k := st + q) (by omega)
            have hne : b2 ≠ w.heap.size := by
              intro e
              rw [e] at d3
              have h4 : (#[nilV, nilV, nilV, nilV] : Array Value)[o2 + (st + q) * 4 + 3]? = some (.int .i64 t.loc) := (Lib.cell_of_heap hx5 _).symm.trans d3
              have hm := Array.mem_of_getElem? h4
              simp at hm
            have hne' : w.heap.size ≠ b2 := Ne.symm hne
            have hst1 : st + q < toks.length := by omega
            have HE4 : Hid (A = ([], t.loc, 2)) := Lib.hid (by rw [HE3.out]; unfold locAt; rw [htk])
            have y0 := cell_blk (i := 0) hx5 rfl
            have y1 := cell_blk (i := 1) hx5 rfl
            have y2 := cell_blk (i := 2) hx5 rfl
            have y3 := cell_blk (i := 3) hx5 rfl
            have f0 := frozen_blk (i := 0) hx5
            have f1 := frozen_blk (i := 1) hx5
            have f2 := frozen_blk (i := 2) hx5
            have f3 := frozen_blk (i := 3) hx5
            have HX5 := Lib.hid hx5
            have HB5 := Lib.hid (HB2.out.trans (hl5.mono HB2.out.size))
            have hlx5 := blk_lt hx5
            clear HE2 HE3 hqd hq HK HV HLN HG HW HT HX2 HB2 HLK HST CT hb4 hb5 hl5 hx5 htk htx d0 d1 d2 vk
            go_wp2_with fail
            rw [← hw5]
            clear hw5
            go_region
            go_wp2_with fail
            obtain ⟨w6, hw6⟩ : ∃ w6, w6 = set4 w5 w.heap.size nilV nilV nilV nilV := ⟨_, rfl⟩
            have e5 := blk4 HX5.out nilV nilV nilV nilV
            have b4 := below_set4 HB5.out (Nat.le_refl _) nilV nilV nilV nilV
            rw [← hw6] at e5 b4
            unfold set4 at hw6
            rw [← hw6]
            have e6 : w6.drew.heap[w.heap.size]? = some (.cells #[nilV, nilV, nilV, nilV] 28 (0, 0)) := e5
            have x0 := cell_blk (i := 0) e6 rfl
            have x1 := cell_blk (i := 1) e6 rfl
            have x2 := cell_blk (i := 2) e6 rfl
            have x3 := cell_blk (i := 3) e6 rfl
            exact bodyPost_ret (v := .tuple #[grZ, .int .i64 (t.loc : Int), .int .i64 2]) (by simp [results, Tryz.results5, go_sem, x0, x1, x2, x3]) rfl (psA_err HE4.out (by decide) (below_draws b4 1))
          | false =>
            rw [hq, if_neg (by decide)] at hcase
            obtain ⟨z0, z1, z2, z3, rfl, hv⟩ := hcase
            obtain ⟨⟨a0, n0, g0, rfl⟩, ⟨a1, n1, g1, rfl⟩, ⟨a2, n2, g2, rfl⟩, a3, n3, g3, rfl⟩ := hv.sl
            obtain ⟨w5, hw5⟩ : ∃ w5, w5 = w4.alloc (.cells #[.slice a0 n0 g0, .slice a1 n1 g1, .slice a2 n2 g2, .slice a3 n3 g3] 28) := ⟨_, rfl⟩
            have hb45 : Below w4.heap.size w4 w5 := by rw [hw5]; exact (Below.refl _ _).alloc (Nat.le_refl _) _
            have hb5 := hb4.trans (hb45.mono hb4.size)
            have hl5 := HW.out.l.trans (hb5.mono HW.out.l.size)
            have hy5 : w5.heap[w4.heap.size]? = some (.cells #[.slice a0 n0 g0, .slice a1 n1 g1, .slice a2 n2 g2, .slice a3 n3 g3] 28 (0, 0)) := by rw [hw5]; exact heap_new _ _
            have hv5 := hv.below (below_draws hb45 1)
            obtain ⟨b2, o2, t, tx, rfl, hbt, htk, htx, d0, d1, d2, d3⟩ := (HT.out.below hl5).at_ (k := st) (by omega)
            have hst1 : st < toks.length := by omega
            have CA := Lib.hid ((HW.out.call (below_draws hb5 1)).add (by rw [List.length_take]; omega) hv5 HW.out.l.size)
            rw [HST.out, show locAt toks st = t.loc by unfold locAt; rw [htk]] at CA
            have HTK : Hid (ls.take (k + 1) = ls.take k ++ [T.map bare]) := Lib.hid (by rw [List.take_add_one, HLK.out]; rfl)
            have HG1 : Hid ((ls.take (k + 1)).all (fun l => !(stS l).2) = true) := Lib.hid (by rw [HTK.out, List.all_append, HG.out]; simp [hq])
            have HS1 : Hid (szL (ls.take (k + 1)) = st + (T.length + 1)) := Lib.hid (by rw [HTK.out, sz_app, HST.out]; simp [szL])
            have y0 := cell_blk (i := 0) hy5 rfl
            have y1 := cell_blk (i := 1) hy5 rfl
            have y2 := cell_blk (i := 2) hy5 rfl
            have y3 := cell_blk (i := 3) hy5 rfl
            have hly := blk_lt hy5
            clear hq HK HV HLN HG HW HT HX2 HB2 HLK HST CT hb4 hb45 hb5 hl5 hy5 hv hv5 htk htx d0 d1 d2 vk
            go_wp2_with fail
            rw [← hw5]
            clear hw5
            go_still_tail 6, (by kernel_rfl)
            go_wp2_with fail
            refine CA.out.mono ?_
            rintro e w6 ⟨rfl, hw6⟩
            have HW6 := Lib.hid hw6
            clear hw6 CA y0 y1 y2 y3 d3 hly hbt
            go_wp2_with fail
            go_roundw
            case rel => exact ⟨k + 1, hkl, by rw [HS1.out]; go_num, by go_num, HG1, by rw [HTK.out]; exact HW6⟩
            case measure => simp [intOf]; omega
        · obtain rfl : k = vs.length := by omega
          have htk : ls.take vs.length = ls := by rw [← HLN.out, List.take_length]
          have HG1 : Hid (ls.all (fun l => !(stS l).2) = true) := Lib.hid (by have := HG.out; rw [htk] at this; exact this)
          have hW := HW.out
          rw [htk] at hW
          obtain ⟨v0, v1, v2, v3, U, sl, hw, hU⟩ := hW
          have HE3 : Hid (A = finL ls toks (checkL (grOf (ls.map stV)))) := Lib.hid (by
            rw [HE2.out]
            unfold goodL
            rw [(bad_none ls 0).2 HG1.out])
          obtain ⟨a0, c0, rfl⟩ := Go.Proofs.YtjgcjnkeeiaafaaGreatDoor.B.own_slice hw.o0
          obtain ⟨a1, c1, rfl⟩ := Go.Proofs.YtjgcjnkeeiaafaaGreatDoor.B.own_slice hw.o1
          obtain ⟨a2, c2, rfl⟩ := Go.Proofs.YtjgcjnkeeiaafaaGreatDoor.B.own_slice hw.o2
          obtain ⟨a3, c3, rfl⟩ := Go.Proofs.YtjgcjnkeeiaafaaGreatDoor.B.own_slice hw.o3
          have HSZ : Hid (SzG ⟨gsOf (ls.map stV), esOf (ls.map stV), rsOf (ls.map stV), U, a0, c0, a1, c1, a2, c2, a3, c3⟩) := Lib.hid (sz_parts s.data.toList.length HSL.out ls (by rw [HLN.out]; exact hvn) (fun L hL => by obtain ⟨sg, rfl⟩ := hls0.out L hL; exact gb_seg HGT.out hlt sg) U a0 a1 a2 a3 c0 c1 c2 c3 hU)
          have hck : checkL ⟨gsOf (ls.map stV), esOf (ls.map stV), rsOf (ls.map stV), U, a0, c0, a1, c1, a2, c2, a3, c3⟩ = checkL (grOf (ls.map stV)) := (check_same (g := ⟨gsOf (ls.map stV), esOf (ls.map stV), rsOf (ls.map stV), U, a0, c0, a1, c1, a2, c2, a3, c3⟩) (g' := grOf (ls.map stV)) rfl rfl rfl hU.symm).symm
          have CC := check_any wo ⟨gsOf (ls.map stV), esOf (ls.map stV), rsOf (ls.map stV), U, a0, c0, a1, c1, a2, c2, a3, c3⟩ ⟨Row.of_own hw.o0, Row.of_own hw.o1, Row.of_own hw.o2, Row.of_own hw.o3, fun u hu => Row.of_own (hw.ro u hu)⟩ HSZ.out (fun u hu => (Go.Proofs.YtjgcjnkeeiaafaaGreatDoor.B.own_cap (hw.ro u hu)).1)
          rw [hck] at CC
          have HPL := Lib.hid (check_place (grOf (ls.map stV)))
          have HPB := Lib.hid (place_beg ls toks (checkL (grOf (ls.map stV))) HPL.out)
          have HWH := Lib.hid hw
          have HU := Lib.hid hU
          obtain ⟨⟨b0, b1, b2, b3⟩, b4, b5, b6, b7, b8⟩ := hw.cells
          have hlw := hw.lt
          clear hck hw hU HPL HSZ HE2 HG HG1 HW HK HV HLN HT htk
          generalize hcc : checkL (grOf (ls.map stV)) = cc at *
          clear hcc
          obtain ⟨p, i, ec⟩ := cc
          simp only at CC HPB
          have HC := Lib.hid CC
          have hlo := HWH.out.l
          have hso := hlo.size
          clear CC
          go_wp2_with fail
          refine HC.out.mono ?_
          rintro e w6 ⟨rfl, hb6⟩
          have hw6 := HWH.out.call hb6
          have HW7 := Lib.hid (HWH.out.call (hb6.alloc hb6.size (.cells #[.int .i64 (p : Int), .int .i64 (i : Int)] 57)))
          have HN7 := Lib.hid (heap_new w6 (.cells #[.int .i64 (p : Int), .int .i64 (i : Int)] 57))
          have HW6 := Lib.hid hw6
          have HB6 := Lib.hid (HB2.out.trans (hw6.l.mono HB2.out.size))
          have HX6 := Lib.hid ((hw6.l.block _ hlx2).trans HX2.out)
          have HX7 := Lib.hid ((HW7.out.l.block _ hlx2).trans HX2.out)
          have HB7 := Lib.hid (HB2.out.trans (HW7.out.l.mono HB2.out.size))
          obtain ⟨⟨d0, d1, d2, d3⟩, d4, d5, d6, d7, d8⟩ := hw6.cells
          have hlw6 := hw6.lt
          have hlx6 := blk_lt HX6.out
          have y0 := cell_blk (i := 0) HX6.out rfl
          have y1 := cell_blk (i := 1) HX6.out rfl
          have y2 := cell_blk (i := 2) HX6.out rfl
          have y3 := cell_blk (i := 3) HX6.out rfl
          have f0 := frozen_blk (i := 0) HX6.out
          have f1 := frozen_blk (i := 1) HX6.out
          have f2 := frozen_blk (i := 2) HX6.out
          have f3 := frozen_blk (i := 3) HX6.out
          have HLW := Lib.hid (show w.heap.size ≤ w2.heap.size from HB2.out.size)
          clear hb6 HC b0 b1 b2 b3 b4 b5 b6 b7 b8 hw6 hlw hlo HX2 HWH HB2
          by_cases he : ec = 0
          · subst he
            have HEF : Hid (A = (ls.map stV, 0, 0)) := Lib.hid (by rw [HE3.out]; unfold finL; rw [if_pos rfl])
            clear HPB HE3
            go_wp2_with fail
            obtain ⟨w7, hw7⟩ : ∃ w7, w7 = set4 w6 w.heap.size (.slice a0 (gsOf (ls.map stV)).length c0) (.slice a1 (esOf (ls.map stV)).length c1) (.slice a2 (rsOf (ls.map stV)).length c2) (.slice a3 U.length c3) := ⟨_, rfl⟩
            have e7 := blk4 HX6.out (.slice a0 (gsOf (ls.map stV)).length c0) (.slice a1 (esOf (ls.map stV)).length c1) (.slice a2 (rsOf (ls.map stV)).length c2) (.slice a3 U.length c3)
            have b7 := below_set4 HB6.out (Nat.le_refl _) (.slice a0 (gsOf (ls.map stV)).length c0) (.slice a1 (esOf (ls.map stV)).length c1) (.slice a2 (rsOf (ls.map stV)).length c2) (.slice a3 U.length c3)
            have r0 := own_set4 HW6.out.o0 HX6.out (by decide) (.slice a0 (gsOf (ls.map stV)).length c0) (.slice a1 (esOf (ls.map stV)).length c1) (.slice a2 (rsOf (ls.map stV)).length c2) (.slice a3 U.length c3)
            have r1 := own_set4 HW6.out.o1 HX6.out (by decide) (.slice a0 (gsOf (ls.map stV)).length c0) (.slice a1 (esOf (ls.map stV)).length c1) (.slice a2 (rsOf (ls.map stV)).length c2) (.slice a3 U.length c3)
            have r2 := own_set4 HW6.out.o2 HX6.out (by decide) (.slice a0 (gsOf (ls.map stV)).length c0) (.slice a1 (esOf (ls.map stV)).length c1) (.slice a2 (rsOf (ls.map stV)).length c2) (.slice a3 U.length c3)
            have r3 := own_set4 HW6.out.o3 HX6.out (by decide) (.slice a0 (gsOf (ls.map stV)).length c0) (.slice a1 (esOf (ls.map stV)).length c1) (.slice a2 (rsOf (ls.map stV)).length c2) (.slice a3 U.length c3)
            have r4 := fun u hu => own_set4 (HW6.out.ro u hu) HX6.out (by decide) (.slice a0 (gsOf (ls.map stV)).length c0) (.slice a1 (esOf (ls.map stV)).length c1) (.slice a2 (rsOf (ls.map stV)).length c2) (.slice a3 U.length c3)
            rw [← hw7] at e7 b7 r0 r1 r2 r3 r4
            unfold set4 at hw7
            rw [← hw7]
            obtain ⟨w8, hw8⟩ : ∃ w8, w8 = w7.alloc (.cells #[.int .i64 (p : Int), .int .i64 (i : Int)] 57) := ⟨_, rfl⟩
            have h78 : Below w7.heap.size w7 w8 := by rw [hw8]; exact (Below.refl _ _).alloc (Nat.le_refl _) _
            have e8 := (h78.block _ (blk_lt e7)).trans e7
            have b8 := b7.trans (h78.mono b7.size)
            have go8 : GrO w.heap.size (ls.map stV) (.slice a0 (gsOf (ls.map stV)).length c0) (.slice a1 (esOf (ls.map stV)).length c1) (.slice a2 (rsOf (ls.map stV)).length c2) (.slice a3 U.length c3) w8 :=
              ⟨U, HU.out, own_base (Go.Proofs.YtjgcjnkeeiaafaaGreatDoor.B.own_below r0 h78) HLW.out, own_base (Go.Proofs.YtjgcjnkeeiaafaaGreatDoor.B.own_below r1 h78) HLW.out, own_base (Go.Proofs.YtjgcjnkeeiaafaaGreatDoor.B.own_below r2 h78) HLW.out, own_base (Go.Proofs.YtjgcjnkeeiaafaaGreatDoor.B.own_below r3 h78) HLW.out, fun u hu => own_base (Go.Proofs.YtjgcjnkeeiaafaaGreatDoor.B.own_below (r4 u hu) h78) HLW.out⟩
            rw [← hw8]
            have x0 := cell_blk (i := 0) e8 rfl
            have x1 := cell_blk (i := 1) e8 rfl
            have x2 := cell_blk (i := 2) e8 rfl
            have x3 := cell_blk (i := 3) e8 rfl
            exact bodyPost_ret (v := .tuple #[.agg #[.slice a0 (gsOf (ls.map stV)).length c0, .slice a1 (esOf (ls.map stV)).length c1, .slice a2 (rsOf (ls.map stV)).length c2, .slice a3 U.length c3], .int .i64 0, .int .i64 0]) (by simp [results, Tryz.results5, go_sem, x0, x1, x2, x3]) rfl (by rw [HEF.out]; exact ⟨b8, by rw [if_pos rfl]; exact ⟨_, _, _, _, rfl, go8⟩⟩)
          · have hq : ((ec : Int) == 0) = false := by rw [beq_eq_false_iff_ne]; omega
            obtain ⟨k0, hk0⟩ : ∃ k0, k0 = if p = 0 then 0 else ((begins ls toks p)[i]?).getD 0 := ⟨_, rfl⟩
            have HEF : Hid (A = ([], k0, ec)) := Lib.hid (by rw [HE3.out, hk0]; unfold finL; rw [if_neg he])
            have hpp : p < 5 := by
              by_cases h0 : p = 0
              · omega
              · exact (HPB.out he h0).1
            have CB := begin_any w2 _ w2.heap.size _ _ _ _ _ _ _ U sl _ HW7.out p i hpp (fun h0 => (HPB.out he h0).2)
            have hk1 : (if p = 0 then (0 : Int) else (blOf ls toks p)[i]!) = (k0 : Int) := by
              rw [hk0]
              by_cases h0 : p = 0
              · rw [if_pos h0, if_pos h0]; rfl
              · rw [if_neg h0, if_neg h0, bl_get ls toks p i (HPB.out he h0).2]
            rw [hk1] at CB
            have HC := Lib.hid CB
            have HE := Lib.hid he
            clear CB hk1 hk0 HPB HE3 he
            go_wp2_with fail
            refine HC.out.mono ?_
            rintro e w8 ⟨rfl, hb8⟩
            have hx8 := (hb8.block _ (blk_lt HX7.out)).trans HX7.out
            have HB8 := Lib.hid (HB7.out.trans (hb8.mono HB7.out.size))
            clear y0 y1 y2 y3 f0 f1 f2 f3 d0 d1 d2 d3 d4 d5 d6 d7 d8 hlx6 hlw6 HX7 HX6 HN7 HW7 HB7 hb8 HC
            have y0 := cell_blk (i := 0) hx8 rfl
            have y1 := cell_blk (i := 1) hx8 rfl
            have y2 := cell_blk (i := 2) hx8 rfl
            have y3 := cell_blk (i := 3) hx8 rfl
            have f0 := frozen_blk (i := 0) hx8
            have f1 := frozen_blk (i := 1) hx8
            have f2 := frozen_blk (i := 2) hx8
            have f3 := frozen_blk (i := 3) hx8
            have hlx8 := blk_lt hx8
            have HX8 := Lib.hid hx8
            clear hx8
            go_wp2_with fail
            obtain ⟨w9, hw9⟩ : ∃ w9, w9 = set4 w8 w.heap.size nilV nilV nilV nilV := ⟨_, rfl⟩
            have e9 := blk4 HX8.out nilV nilV nilV nilV
            have b9 := below_set4 HB8.out (Nat.le_refl _) nilV nilV nilV nilV
            rw [← hw9] at e9 b9
            unfold set4 at hw9
            rw [← hw9]
            have x0 := cell_blk (i := 0) e9 rfl
            have x1 := cell_blk (i := 1) e9 rfl
            have x2 := cell_blk (i := 2) e9 rfl
            have x3 := cell_blk (i := 3) e9 rfl
            exact bodyPost_ret (v := .tuple #[grZ, .int .i64 (k0 : Int), .int .i64 (ec : Int)]) (by simp [results, Tryz.results5, go_sem, x0, x1, x2, x3]) rfl (psA_err HEF.out HE.out b9)
  · have hq : ((c1 : Int) == 0) = false := by rw [beq_eq_false_iff_ne]; omega
    have HE : Hid (A = ([], k1, c1)) := Lib.hid (by rw [HA.out, if_neg h0])
    clear HA HM HR HO HSL
    go_wp2_with fail
    obtain ⟨w5, hw5⟩ : ∃ w5, w5 = set4 w1 w.heap.size nilV nilV nilV nilV := ⟨_, rfl⟩
    have e5 := blk4 HX1.out nilV nilV nilV nilV
    have b4 := below_set4 HBB.out (Nat.le_refl _) nilV nilV nilV nilV
    rw [← hw5] at e5 b4
    unfold set4 at hw5
    rw [← hw5]
    have x0 := cell_blk (i := 0) e5 rfl
    have x1 := cell_blk (i := 1) e5 rfl
    have x2 := cell_blk (i := 2) e5 rfl
    have x3 := cell_blk (i := 3) e5 rfl
    exact bodyPost_ret (v := .tuple #[grZ, .int .i64 (k1 : Int), .int .i64 (c1 : Int)]) (by simp [results, Tryz.results5, go_sem, x0, x1, x2, x3]) rfl (psA_err HE.out h0 b4)
end Go.Proofs.YtjgcjnkeeiaafaaGreatDoor.P3.C
