/-
  Contract of the document's own Parse (head: up to its loop).
-/
import Derived.Test.YtjgcjnkeeiaafaaGreatDoorTcdh
namespace Go.Proofs.YtjgcjnkeeiaafaaGreatDoor.P3.D
open Go.RowKit Go.Shelf Go.Proofs.YtjgcjnkeeiaafaaGreatDoor Go.Proofs.YtjgcjnkeeiaafaaGreatDoor.P3 Go.Proofs.YtjgcjnkeeiaafaaGreatDoor.P3.C Go.Proofs.YtjgcjnkeeiaafaaGreatDoor.P3.L Go.Proofs.YtjgcjnkeeiaafaaGreatDoor.Lx
theorem splitK_seg (l : List Tok) : ∀ (n k st : Nat), n = l.length - k → st ≤ k → k ≤ l.length →
    splitK (l.drop k) ((l.take k).drop st) = ((segS (l.drop k) k st).1.map (segT l), l.drop (segS (l.drop k) k st).2)
  | 0, k, st, hn, hs, hk => by
    have e : k = l.length := by omega
    subst e
    rw [List.drop_length, List.take_length, segS]; rfl
  | n + 1, k, st, hn, hs, hk => by
    have hlt : k < l.length := by omega
    rw [List.drop_eq_getElem_cons hlt, splitK, segS]
    by_cases h3 : l[k].kind = 3
    · have ih := splitK_seg l n (k + 1) (k + 1) (by omega) (Nat.le_refl _) hlt
      have e2 : (l.take (k + 1)).drop (k + 1) = [] := List.drop_eq_nil_of_le (by rw [List.length_take]; omega)
      rw [e2] at ih
      rw [if_pos h3, if_pos h3, ih]
      rfl
    · have ih := splitK_seg l n (k + 1) st (by omega) (by omega) hlt
      have e2 : (l.take (k + 1)).drop st = (l.take k).drop st ++ [l[k]] := by
        rw [List.take_succ_eq_append_getElem hlt, List.drop_append_of_le_length (by rw [List.length_take]; omega)]
      rw [e2] at ih
      rw [if_neg h3, if_neg h3, ih]
theorem splitK_all (l : List Tok) : splitK l [] = ((segS l 0 0).1.map (segT l), l.drop (segS l 0 0).2) := by
  have := splitK_seg l l.length 0 0 rfl (Nat.le_refl _) (Nat.zero_le _)
  simpa using this
/-- The document's parting, and what is told of the tokens. -/
theorem tell_bad {toks : List Tok} (h : (splitK toks []).2 ≠ []) : tellT toks = ([], ((splitK toks []).2.head?.map Tok.loc).getD 0, 2) := by
  rw [splitK_all] at h ⊢
  unfold tellT
  rw [split_all, if_neg (by intro e; exact h (List.map_eq_nil_iff.1 e))]
  simp only [List.head?_drop]
  unfold locAt
  cases toks[(segS toks 0 0).2]? <;> rfl
theorem tell_good {toks : List Tok} (h : (splitK toks []).2 = []) : tellT toks = goodL ((splitK toks []).1.map fun s => s.map bare) toks := by
  rw [splitK_all] at h ⊢
  unfold tellT
  rw [split_all, if_pos (by rw [List.map_eq_nil_iff]; exact h), List.map_map]
  rfl
/-- The statement with the number k. -/
theorem split_at {toks : List Tok} {k : Nat} {T : List Tok} (h : (splitK toks []).1[k]? = some T) : ((splitK toks []).1.map fun s => s.map bare)[k]? = some (T.map bare) ∧ szL (((splitK toks []).1.map fun s => s.map bare).take k) + T.length < toks.length := by
  refine ⟨by rw [List.getElem?_map, h]; rfl, ?_⟩
  rw [splitK_all] at h ⊢
  simp only at h ⊢
  have hch : Chn toks.length 0 (segS toks 0 0).1 := by have := seg_chn toks 0 0 (Nat.le_refl _); rw [Nat.zero_add] at this; exact this
  rw [List.getElem?_map] at h
  obtain ⟨s, hs, rfl⟩ := Option.map_eq_some_iff.1 h
  obtain ⟨a1, a2, a3, a4⟩ := chn_at toks _ 0 k s hch hs
  rw [List.map_map, a4]
  have e : ((fun s => List.map bare s) ∘ segT toks) = fun s => (segT toks s).map bare := rfl
  rw [e]
  omega
theorem split_seg_of {toks : List Tok} : ∀ L ∈ ((splitK toks []).1.map fun s => s.map bare), ∃ s, L = (segT toks s).map bare := by
  intro L hL
  rw [splitK_all] at hL
  obtain ⟨x, hx, rfl⟩ := List.mem_map.1 hL
  obtain ⟨s, _, rfl⟩ := List.mem_map.1 hx
  exact ⟨s, rfl⟩
theorem split_few {toks : List Tok} : (splitK toks []).1.length ≤ toks.length := (split_len toks []).1
/-- The whole, of the statements so far. -/
def DR (ls : List (List B3)) (toks : List Tok) (w3 : World) (gb bb : Nat) (wr : World) : Prop :=
  ∃ v0 v1 v2 v3 U s, DH w3 gb bb v0 v1 v2 v3 (gsOf (ls.map stV)) (esOf (ls.map stV)) (rsOf (ls.map stV)) U s (blOf ls toks) wr ∧ U.map usBare = usOf (ls.map stV)
theorem loc_at {toks : List Tok} {k : Nat} (hk : k < toks.length) : locAt toks k = toks[k]!.loc := by
  unfold locAt
  rw [List.getElem?_eq_getElem hk, getElem!_pos toks k hk]
theorem DR.start (toks : List Tok) (w2 : World) : DR [] toks w2 w2.heap.size (w2.heap.size + 1 + 1 + 1 + 1 + 1 + 1) (((((((w2.alloc (.cells #[nilV, nilV, nilV, nilV] 28)).alloc (.cells #[] 3)).alloc (.cells #[] 3)).alloc (.cells #[] 3)).alloc (.cells #[] 3)).alloc (.cells #[] 3)).alloc (.cells #[.slice (some ⟨w2.heap.size + 1, 0, none⟩) 0 0, .slice (some ⟨w2.heap.size + 1 + 1, 0, none⟩) 0 0, .slice (some ⟨w2.heap.size + 1 + 1 + 1, 0, none⟩) 0 0, .slice (some ⟨w2.heap.size + 1 + 1 + 1 + 1, 0, none⟩) 0 0, .slice (some ⟨w2.heap.size + 1 + 1 + 1 + 1 + 1, 0, none⟩) 0 0] 49)) := by
  refine ⟨nilV, nilV, nilV, nilV, [], fun p => .slice (some ⟨w2.heap.size + (p + 1), 0, none⟩) 0 0, ⟨?_, ?_, World.ownsRow_nil _ _ _ _, World.ownsRow_nil _ _ _ _, World.ownsRow_nil _ _ _ _, World.ownsRow_nil _ _ _ _, (fun u hu => by cases hu), ?_, ?_, ?_, Nat.le_refl _, by omega⟩, rfl⟩
  · have h := B.heap_new w2 (.cells #[nilV, nilV, nilV, nilV] 28)
    have hb : Below (w2.alloc (.cells #[nilV, nilV, nilV, nilV] 28)).heap.size (w2.alloc (.cells #[nilV, nilV, nilV, nilV] 28)) (((((((w2.alloc (.cells #[nilV, nilV, nilV, nilV] 28)).alloc (.cells #[] 3)).alloc (.cells #[] 3)).alloc (.cells #[] 3)).alloc (.cells #[] 3)).alloc (.cells #[] 3)).alloc (.cells #[.slice (some ⟨w2.heap.size + 1, 0, none⟩) 0 0, .slice (some ⟨w2.heap.size + 1 + 1, 0, none⟩) 0 0, .slice (some ⟨w2.heap.size + 1 + 1 + 1, 0, none⟩) 0 0, .slice (some ⟨w2.heap.size + 1 + 1 + 1 + 1, 0, none⟩) 0 0, .slice (some ⟨w2.heap.size + 1 + 1 + 1 + 1 + 1, 0, none⟩) 0 0] 49)) := by
      refine ((((((Below.refl _ _).alloc ?_ _).alloc ?_ _).alloc ?_ _).alloc ?_ _).alloc ?_ _).alloc ?_ _ <;> simp <;> omega
    exact (hb.block _ (B.blk_lt h)).trans h
  · have h := B.heap_new ((((((w2.alloc (.cells #[nilV, nilV, nilV, nilV] 28)).alloc (.cells #[] 3)).alloc (.cells #[] 3)).alloc (.cells #[] 3)).alloc (.cells #[] 3)).alloc (.cells #[] 3)) (.cells #[.slice (some ⟨w2.heap.size + 1, 0, none⟩) 0 0, .slice (some ⟨w2.heap.size + 1 + 1, 0, none⟩) 0 0, .slice (some ⟨w2.heap.size + 1 + 1 + 1, 0, none⟩) 0 0, .slice (some ⟨w2.heap.size + 1 + 1 + 1 + 1, 0, none⟩) 0 0, .slice (some ⟨w2.heap.size + 1 + 1 + 1 + 1 + 1, 0, none⟩) 0 0] 49)
    simp only [World.size_alloc] at h
    exact h
  · intro p hp
    obtain rfl | rfl | rfl | rfl | rfl : p = 0 ∨ p = 1 ∨ p = 2 ∨ p = 3 ∨ p = 4 := by omega
    · have h := World.ownsRow_made (base := w2.heap.size) (e := 3) (size := 1) (w2.alloc (.cells #[nilV, nilV, nilV, nilV] 28)) #[] 0 (by simp <;> omega) (Nat.zero_le _) (by simp)
      simp only [World.size_alloc] at h
      exact (((((h.alloc _).alloc _).alloc _).alloc _).alloc _)
    · have h := World.ownsRow_made (base := w2.heap.size) (e := 3) (size := 1) ((w2.alloc (.cells #[nilV, nilV, nilV, nilV] 28)).alloc (.cells #[] 3)) #[] 0 (by simp <;> omega) (Nat.zero_le _) (by simp)
      simp only [World.size_alloc] at h
      exact ((((h.alloc _).alloc _).alloc _).alloc _)
    · have h := World.ownsRow_made (base := w2.heap.size) (e := 3) (size := 1) (((w2.alloc (.cells #[nilV, nilV, nilV, nilV] 28)).alloc (.cells #[] 3)).alloc (.cells #[] 3)) #[] 0 (by simp <;> omega) (Nat.zero_le _) (by simp)
      simp only [World.size_alloc] at h
      exact (((h.alloc _).alloc _).alloc _)
    · have h := World.ownsRow_made (base := w2.heap.size) (e := 3) (size := 1) ((((w2.alloc (.cells #[nilV, nilV, nilV, nilV] 28)).alloc (.cells #[] 3)).alloc (.cells #[] 3)).alloc (.cells #[] 3)) #[] 0 (by simp <;> omega) (Nat.zero_le _) (by simp)
      simp only [World.size_alloc] at h
      exact ((h.alloc _).alloc _)
    · have h := World.ownsRow_made (base := w2.heap.size) (e := 3) (size := 1) (((((w2.alloc (.cells #[nilV, nilV, nilV, nilV] 28)).alloc (.cells #[] 3)).alloc (.cells #[] 3)).alloc (.cells #[] 3)).alloc (.cells #[] 3)) #[] 0 (by simp <;> omega) (Nat.zero_le _) (by simp)
      simp only [World.size_alloc] at h
      exact (h.alloc _)
  · intro p q _ _ hpq k hk hk2
    simp only [Value.ownBlock, Option.some.injEq] at hk hk2
    omega
  · refine (((((((Below.refl _ _).alloc ?_ _).alloc ?_ _).alloc ?_ _).alloc ?_ _).alloc ?_ _).alloc ?_ _).alloc ?_ _ <;> simp <;> omega
theorem DR.lt {ls : List (List B3)} {toks : List Tok} {w3 wr : World} {gb bb : Nat} (h : DR ls toks w3 gb bb wr) : gb < wr.heap.size ∧ bb < wr.heap.size := by
  obtain ⟨v0, v1, v2, v3, U, s, h, _⟩ := h
  exact ⟨h.lt, h.ltb⟩
theorem DR.l {ls : List (List B3)} {toks : List Tok} {w3 wr : World} {gb bb : Nat} (h : DR ls toks w3 gb bb wr) : Below w3.heap.size w3 wr := by
  obtain ⟨v0, v1, v2, v3, U, s, h, _⟩ := h
  exact h.l
theorem DR.call {ls : List (List B3)} {toks : List Tok} {w3 wr w' : World} {gb bb : Nat} (h : DR ls toks w3 gb bb wr) (hb : Below wr.heap.size wr w') : DR ls toks w3 gb bb w' := by
  obtain ⟨v0, v1, v2, v3, U, s, h, hU⟩ := h
  exact ⟨v0, v1, v2, v3, U, s, h.call hb, hU⟩
theorem step_append1 {P : Program} {ops : Array Oper} {o : Oper} {a : Act} {w : World} {K : Act → World → Prop} {Q : Exit → Act → World → Prop} {E : Prop}
    (hg : o.guard = none) (s x : Operand) (t : TypeId) (hop : o.op = Op.call { callee := Callee.builtin Builtin.append, args := #[s, x], argTypes := #[t, t] })
    (B : Nat) (e : TypeId) (i : TypeInfo) (z : Value) (size bytes : Nat) (h1 : P.underlying t = some (.slice e)) (h2 : P.info? e = some i) (h3 : i.zero = some z) (h4 : i.size = size) (h5 : i.bytes = bytes) (h6 : z.cells.size = size) (h7 : 0 < size)
    (v : Value) (n : Nat) (xs : List Value) (hs : a.eval s = v) (hown : w.ownsRow B e size v n xs)
    (ad : Addr) (m c : Nat) (news : List Value) (hx : a.eval x = .slice (some ad) m c) (hn : news.length = m * size) (hc : ∀ j u, news[j]? = some u → w.cell? (ad.add j) = some u) (h1c : ∀ u ∈ news, u.oneCell' = true)
    (b1 : n + m ≤ maxLen) (b2 : (n + m) * bytes ≤ 140737488355328) (hb : B ≤ w.heap.size)
    (hK : ∀ v' w', w'.ownsRow B e size v' (n + m) (xs ++ news) → w.grownBy w' v.ownBlock → (v'.ownBlock = v.ownBlock ∨ ∃ q, v'.ownBlock = some q ∧ w.heap.size ≤ q) → K (a.put o.dst v') w') :
    if Region.wanted o (yielded ops a.tmps) = true then Oper.wp P o a w K Q else E := by
  have hw : Region.wanted o (yielded ops a.tmps) = true := by simp [Region.wanted, hg]
  rw [if_pos hw]
  obtain ⟨v', w', hrun, r1, r2, _, r4⟩ := run_append_own_at (P := P) w B t o.type e i z size bytes h1 h2 h3 h4 h5 h6 h7 v n xs hown ad m c news hn hc h1c b1 b2 hb
  unfold Oper.wp
  simp [execOp, hop, resolve, invoke, builtin, hs, hx, hrun, Result.andThen]
  exact hK v' w' r1 r2 (r4.imp_right fun h => ⟨_, h, Nat.le_refl _⟩)
theorem part_of (v : PartV) : (partNo v = 1 ∧ (gsOf [v]).length = 1 ∧ (esOf [v]).length = 0 ∧ (rsOf [v]).length = 0) ∨ (partNo v = 2 ∧ (gsOf [v]).length = 0 ∧ (esOf [v]).length = 1 ∧ (rsOf [v]).length = 0) ∨ (partNo v = 3 ∧ (gsOf [v]).length = 0 ∧ (esOf [v]).length = 0 ∧ (rsOf [v]).length = 1) ∨ (partNo v = 4 ∧ (gsOf [v]).length = 0 ∧ (esOf [v]).length = 0 ∧ (rsOf [v]).length = 0) := by
  cases v <;> simp [partNo, gsOf, esOf, rsOf]
theorem own_len {W : World} {K e z n m c : Nat} {A : Option Addr} {xs : List Value} (h : W.ownsRow K e z (.slice A n c) m xs) : n = m := by
  obtain ⟨_, _, h⟩ := B.own_slice h
  injection h
theorem one_of (v : PartV) : (gsOf [v]).length ≤ 1 ∧ (esOf [v]).length ≤ 1 ∧ (rsOf [v]).length ≤ 1 ∧ (usOf [v]).length ≤ 1 := by
  have h := len_of [v]
  exact h
theorem DR.snoc {ls : List (List B3)} {L : List B3} {toks : List Tok} {w3 wr : World} {gb bb p x : Nat} {v0 v1 v2 v3 : Value} {U N : List Us} {s : Nat → Value} {pv : PartV}
    (h : DH w3 gb bb v0 v1 v2 v3 (gsOf (ls.map P3.stV) ++ gsOf [pv]) (esOf (ls.map P3.stV) ++ esOf [pv]) (rsOf (ls.map P3.stV) ++ rsOf [pv]) (U ++ N) s (fun i => if i = p then blOf ls toks i ++ [(x : Int)] else blOf ls toks i) wr)
    (hpv : P3.stV L = pv) (hp : partNo pv = p) (hx : locAt toks (szL ls) = x) (hU : U.map usBare = usOf (ls.map P3.stV)) (hN : N.map usBare = usOf [pv]) : DR (ls ++ [L]) toks w3 gb bb wr := by
  subst hpv hp hx
  refine ⟨v0, v1, v2, v3, U ++ N, s, ?_, ?_⟩
  · rw [List.map_append, List.map_singleton, (of_app _ _).1, (of_app _ _).2.1, (of_app _ _).2.2.1]
    have e : blOf (ls ++ [L]) toks = fun i => if i = partNo (P3.stV L) then blOf ls toks i ++ [((locAt toks (szL ls) : Nat) : Int)] else blOf ls toks i := funext fun p => bl_snoc ls toks L p
    rw [e]; exact h
  · rw [List.map_append, hU, hN, List.map_append, List.map_singleton, (of_app _ _).2.2.2]
set_option maxRecDepth 100000 in
set_option maxHeartbeats 8000000 in
theorem rparse_any (s : ByteArray) (w : World) (hs : s.size ≤ 140737488351232) : Calls Tryz.prog 6 #[.string s] w (PsA (parseL s.data.toList) w) := by
  obtain ⟨W0, hW0⟩ : ∃ W0, W0 = w.alloc (.cells #[nilV, nilV, nilV, nilV] 28) := ⟨_, rfl⟩
  have CL := Lib.hid (ref_any s W0 hs)
  have HX := Lib.hid (show W0.heap[w.heap.size]? = some (.cells #[nilV, nilV, nilV, nilV] 28 (0, 0)) by rw [hW0]; exact B.heap_new _ _)
  have HB0 := Lib.hid (show Below w.heap.size w W0 by rw [hW0]; exact (Below.refl _ _).alloc (Nat.le_refl _) _)
  have hsz0 : W0.heap.size = w.heap.size + 1 := by rw [hW0, World.size_alloc]
  have HM := Lib.hid (lexS_most s.data.toList 0 0 [])
  have HSL : Hid (s.data.toList.length ≤ 140737488351232) := Lib.hid (by rw [Array.length_toList]; exact hs)
  have HA := Lib.hid (show parseL s.data.toList = if (lexL s.data.toList).2.2 = 0 then tellT (lexL s.data.toList).1 else ([], (lexL s.data.toList).2.1, (lexL s.data.toList).2.2) from rfl)
  have HR : Hid (lexS s.data.toList 0 0 [] = lexL s.data.toList) := Lib.hid rfl
  generalize parseL s.data.toList = A at *
  generalize lexL s.data.toList = r at *
  obtain ⟨toks, k1, c1⟩ := r
  subst hW0
  clear hs
  go_enter Tryz.func6, Tryz.ntmps6
  go_wp2_with fail
  refine CL.out.mono ?_
  rintro e w1 ⟨v1, rfl, hown, hb1⟩
  obtain ⟨ao, ac, rfl⟩ := B.own_slice hown
  have hx1 := (hb1.block _ (B.blk_lt HX.out)).trans HX.out
  have HBB := Lib.hid (HB0.out.trans (hb1.mono HB0.out.size))
  have y0 := B.cell_blk (i := 0) hx1 rfl
  have y1 := B.cell_blk (i := 1) hx1 rfl
  have y2 := B.cell_blk (i := 2) hx1 rfl
  have y3 := B.cell_blk (i := 3) hx1 rfl
  have f0 := B.frozen_blk (i := 0) hx1
  have f1 := B.frozen_blk (i := 1) hx1
  have f2 := B.frozen_blk (i := 2) hx1
  have f3 := B.frozen_blk (i := 3) hx1
  have HX1 := Lib.hid hx1
  have hlx := B.blk_lt hx1
  have HO := Lib.hid hown
  clear CL HX HB0 hown hb1 hx1 hsz0
  simp only at *
  by_cases h0 : c1 = 0
  case neg =>
    have hq : ((c1 : Int) == 0) = false := by rw [beq_eq_false_iff_ne]; omega
    have HE : Hid (A = ([], k1, c1)) := Lib.hid (by rw [HA.out, if_neg h0])
    clear HA HM HR HO HSL
    go_wp2_with fail
    obtain ⟨w5, hw5⟩ : ∃ w5, w5 = set4 w1 w.heap.size nilV nilV nilV nilV := ⟨_, rfl⟩
    have e5 := blk4 HX1.out nilV nilV nilV nilV
    have b4 := below_set4 HBB.out (Nat.le_refl _) nilV nilV nilV nilV
    rw [← hw5] at e5 b4
    unfold set4 at hw5
    rw [← hw5]
    have x0 := B.cell_blk (i := 0) e5 rfl
    have x1 := B.cell_blk (i := 1) e5 rfl
    have x2 := B.cell_blk (i := 2) e5 rfl
    have x3 := B.cell_blk (i := 3) e5 rfl
    exact bodyPost_ret (v := .tuple #[grZ, .int .i64 (k1 : Int), .int .i64 (c1 : Int)]) (by simp [results, Tryz.results6, go_sem, x0, x1, x2, x3]) rfl (psA_err HE.out h0 b4)
  subst h0
  have hlt : toks.length ≤ 5000 := HM.out toks k1 HR.out (by simp)
  have HE : Hid (A = tellT toks) := Lib.hid (by rw [HA.out, if_pos rfl])
  have CS := Lib.hid (rstatements_any w1 ao ac toks (Row.of_own HO.out) hlt)
  have HGT := Lib.hid (lexS_good s.data.toList.length s.data.toList 0 0 [] toks k1 HR.out (Nat.le_refl _) (fun t ht => by cases ht))
  clear HA HM HR
  go_wp2_with fail
  refine CS.out.mono ?_
  rintro e w2 ⟨hb2, hcase⟩
  have hx2 := (hb2.block _ hlx).trans HX1.out
  have HB2 := Lib.hid (HBB.out.trans (hb2.mono HBB.out.size))
  have HT := Lib.hid (Row.below (Row.of_own HO.out) (Nat.le_refl _) hb2)
  have hlx2 := B.blk_lt hx2
  have hz12 := hb2.size
  clear y0 y1 y2 y3 f0 f1 f2 f3 HX1 HBB hlx HO CS hb2
  have y0 := B.cell_blk (i := 0) hx2 rfl
  have y1 := B.cell_blk (i := 1) hx2 rfl
  have y2 := B.cell_blk (i := 2) hx2 rfl
  have y3 := B.cell_blk (i := 3) hx2 rfl
  have f0 := B.frozen_blk (i := 0) hx2
  have f1 := B.frozen_blk (i := 1) hx2
  have f2 := B.frozen_blk (i := 2) hx2
  have f3 := B.frozen_blk (i := 3) hx2
  have HX2 := Lib.hid hx2
  clear hx2
  by_cases hend : (splitK toks []).2 = []
  case neg =>
    rw [if_neg hend] at hcase
    obtain ⟨l2, hl2⟩ : ∃ l2, ((splitK toks []).2.head?.map Tok.loc).getD 0 = l2 := ⟨_, rfl⟩
    have HE2 : Hid (A = ([], l2, 2)) := Lib.hid (by rw [HE.out, tell_bad hend, hl2])
    rw [hl2] at hcase
    subst hcase
    clear HE HT hend hl2
    go_wp2_with fail
    obtain ⟨w5, hw5⟩ : ∃ w5, w5 = set4 w2 w.heap.size nilV nilV nilV nilV := ⟨_, rfl⟩
    have e5 := blk4 HX2.out nilV nilV nilV nilV
    have b4 := below_set4 HB2.out (Nat.le_refl _) nilV nilV nilV nilV
    rw [← hw5] at e5 b4
    unfold set4 at hw5
    rw [← hw5]
    have x0 := B.cell_blk (i := 0) e5 rfl
    have x1 := B.cell_blk (i := 1) e5 rfl
    have x2 := B.cell_blk (i := 2) e5 rfl
    have x3 := B.cell_blk (i := 3) e5 rfl
    exact bodyPost_ret (v := .tuple #[grZ, .int .i64 (l2 : Int), .int .i64 2]) (by simp [results, Tryz.results6, go_sem, x0, x1, x2, x3]) rfl (psA_err HE2.out (by decide) b4)
  rw [if_pos hend] at hcase
  obtain ⟨v, vs, rfl, hvs, hsv⟩ := hcase
  obtain ⟨va, vc, rfl⟩ := B.own_slice hvs
  obtain ⟨ls, hls⟩ : ∃ ls, ls = (splitK toks []).1.map fun s => s.map bare := ⟨_, rfl⟩
  obtain ⟨n, hn⟩ : ∃ n, (splitK toks []).1.length = n := ⟨_, rfl⟩
  have HE2 : Hid (A = goodL ls toks) := Lib.hid (by rw [HE.out, tell_good hend, hls])
  have hln : ls.length = n := by rw [hls, List.length_map, hn]
  have hvn : n ≤ 5000 := by have := split_few (toks := toks); omega
  have HK := Lib.hid (fun (k : Nat) (hk : k < n) => show ∃ (T : List Tok) (a : Option Addr) (c : Nat), vs[k]? = some (.slice a T.length c) ∧ ls[k]? = some (T.map bare) ∧ szL (ls.take k) + T.length < toks.length ∧ Row w2 a (rowC T) from by
    obtain ⟨T, hT⟩ : ∃ T, (splitK toks []).1[k]? = some T := ⟨_, List.getElem?_eq_getElem (by omega)⟩
    obtain ⟨v, hv, ⟨a, c, rfl⟩, ho, _⟩ := hsv.at_ k T hT
    obtain ⟨q1, q2⟩ := split_at hT
    exact ⟨T, a, c, hv, by rw [hls]; exact q1, by rw [hls]; exact q2, Row.of_own ho⟩)
  rw [hn] at hvs ⊢
  have HV := Lib.hid (Row.of_own hvs)
  have HLN := Lib.hid hln
  have hls0 : Hid (∀ L ∈ ls, ∃ s, L = (segT toks s).map bare) := Lib.hid (by rw [hls]; exact split_seg_of)
  clear HE hvs hsv hend hls hln hn
  go_wp2_with fail
  go_loopw [11, 12] (fun f i wr => ∃ k : Nat, k ≤ n ∧ f = .int .i64 ((szL (ls.take k) : Nat) : Int) ∧ i = .int .i64 k ∧ Hid ((ls.take k).all (fun l => !(stS l).2) = true) ∧ Hid (DR (ls.take k) toks w2 w2.heap.size (w2.heap.size + 1 + 1 + 1 + 1 + 1 + 1) wr)) (fun _ i _ => n - (intOf i).toNat)
  case atStart => exact ⟨0, Nat.zero_le _, rfl, rfl, Lib.hid rfl, Lib.hid (DR.start toks w2)⟩
  case round =>
    clear y0 y1 y2 y3 f0 f1 f2 f3
    obtain ⟨k, hk, rfl, rfl, HG, HW⟩ := hrel
    obtain ⟨wo, rfl⟩ : ∃ wo, wo = wr := ⟨wr, rfl⟩
    by_cases hkl : k < n
    · obtain ⟨T, ta, tc, hvk, hlk, hsz, hrow⟩ := HK.out k hkl
      obtain ⟨vb, vo, rfl, hvb, hvc⟩ := HV.out (fun e => by rw [e] at hvk; cases hvk)
      have hl0 := HW.out.l
      have vk := (hl0.cell (p := ⟨vb, vo + k, none⟩) hvb).trans (hvc k _ hvk)
      have CT := Lib.hid (rstatement_any wo ta tc T (Row.below hrow (Nat.le_refl _) hl0) (by omega))
      have HLK := Lib.hid hlk
      have hsz0 := hl0.size
      have hvb' : vb < wo.heap.size := by omega
      have HVK := Lib.hid (hvc k _ hvk)
      have HVB2 := Lib.hid hvb
      have hvne : vb ≠ w2.heap.size := by have h : vb < w2.heap.size := hvb; omega
      have hvne2 : w2.heap.size ≠ vb := Ne.symm hvne
      clear hvk hlk hrow hvc hl0 hvb
      generalize hst : szL (ls.take k) = st at *
      have HST := Lib.hid hst
      clear hst
      go_wp2_with fail
      refine CT.out.mono ?_
      rintro e w4 ⟨hb4, hcase⟩
      have hlx4 : w.heap.size < w4.heap.size := by have := hb4.size; omega
      cases hq : (stS (T.map bare)).2 with
      | true =>
        rw [hq, if_pos rfl] at hcase
        obtain ⟨q, hqd⟩ : ∃ q, q = (stS (T.map bare)).1 := ⟨_, rfl⟩
        rw [← hqd] at hcase
        subst hcase
        have hle : q ≤ T.length := by rw [hqd]; have := st_in (T.map bare); rwa [List.length_map] at this
        have HE3 : Hid (A = ([], locAt toks (st + q), 2)) := Lib.hid (by
          rw [HE2.out]
          unfold goodL
          rw [bad_at ls 0 k _ HLK.out HG.out hq, HST.out, ← hqd, Nat.zero_add])
        obtain ⟨w5, hw5⟩ : ∃ w5, w5 = w4.alloc (.cells #[nilV, nilV, nilV, nilV] 28) := ⟨_, rfl⟩
        have hb5 : Below wo.heap.size wo w5 := by rw [hw5]; exact hb4.alloc hb4.size _
        have hl5 := HW.out.l.trans (hb5.mono HW.out.l.size)
        have hx5 := (hl5.block _ hlx2).trans HX2.out
        obtain ⟨b2, o2, rfl, hbt, hct⟩ := tok_at (Row.below HT.out (Nat.le_refl _) hl5) (i := st + q) (by omega)
        obtain ⟨_, _, _, d3⟩ := hct (st + q) (by omega)
        have HE4' := loc_at (toks := toks) (k := st + q) (by omega)
        obtain ⟨t, ht⟩ : ∃ t, toks[st + q]! = t := ⟨_, rfl⟩
        rw [ht] at d3 HE4'
        have hne : b2 ≠ w.heap.size := by
          intro e
          rw [e] at d3
          have h4 : (#[nilV, nilV, nilV, nilV] : Array Value)[o2 + (st + q) * 4 + 3]? = some (.int .i64 t.loc) := (Lib.cell_of_heap hx5 _).symm.trans d3
          have hm := Array.mem_of_getElem? h4
          simp at hm
        have hne' : w.heap.size ≠ b2 := Ne.symm hne
        have hst1 : st + q < toks.length := by omega
        have HE4 : Hid (A = ([], t.loc, 2)) := Lib.hid (by rw [HE3.out, HE4'])
        have y0 := B.cell_blk (i := 0) hx5 rfl
        have y1 := B.cell_blk (i := 1) hx5 rfl
        have y2 := B.cell_blk (i := 2) hx5 rfl
        have y3 := B.cell_blk (i := 3) hx5 rfl
        have f0 := B.frozen_blk (i := 0) hx5
        have f1 := B.frozen_blk (i := 1) hx5
        have f2 := B.frozen_blk (i := 2) hx5
        have f3 := B.frozen_blk (i := 3) hx5
        have HX5 := Lib.hid hx5
        have HB5 := Lib.hid (HB2.out.trans (hl5.mono HB2.out.size))
        have hlx5 := B.blk_lt hx5
        clear HE2 HE3 HE4' hqd hq HK HV HLN HG HW HT HX2 HB2 HLK HST CT hb4 hb5 hl5 hx5 hct ht vk
        go_wp2_with fail
        rw [← hw5]
        clear hw5
        go_region
        go_wp2_with fail
        obtain ⟨w6, hw6⟩ : ∃ w6, w6 = set4 w5 w.heap.size nilV nilV nilV nilV := ⟨_, rfl⟩
        have e5 := blk4 HX5.out nilV nilV nilV nilV
        have b4 := below_set4 HB5.out (Nat.le_refl _) nilV nilV nilV nilV
        rw [← hw6] at e5 b4
        unfold set4 at hw6
        rw [← hw6]
        have e6 : w6.drew.heap[w.heap.size]? = some (.cells #[nilV, nilV, nilV, nilV] 28 (0, 0)) := e5
        have x0 := B.cell_blk (i := 0) e6 rfl
        have x1 := B.cell_blk (i := 1) e6 rfl
        have x2 := B.cell_blk (i := 2) e6 rfl
        have x3 := B.cell_blk (i := 3) e6 rfl
        exact bodyPost_ret (v := .tuple #[grZ, .int .i64 (t.loc : Int), .int .i64 2]) (by simp [results, Tryz.results6, go_sem, x0, x1, x2, x3]) rfl (psA_err HE4.out (by decide) (below_draws b4 1))
      | false =>
        rw [hq, if_neg (by decide)] at hcase
        obtain ⟨z0, z1, z2, z3, rfl, hv⟩ := hcase
        obtain ⟨⟨x0, n0, g0, rfl⟩, ⟨x1, n1, g1, rfl⟩, ⟨x2, n2, g2, rfl⟩, x3, n3, g3, rfl⟩ := GrO.sl hv
        obtain ⟨w5, hw5⟩ : ∃ w5, w5 = w4.alloc (.cells #[.slice x0 n0 g0, .slice x1 n1 g1, .slice x2 n2 g2, .slice x3 n3 g3] 28) := ⟨_, rfl⟩
        have hb45 : Below w4.heap.size w4 w5 := by rw [hw5]; exact (Below.refl _ _).alloc (Nat.le_refl _) _
        have hb5 := hb4.trans (hb45.mono hb4.size)
        have hl5 := HW.out.l.trans (hb5.mono HW.out.l.size)
        have hy5 : w5.heap[w4.heap.size]? = some (.cells #[.slice x0 n0 g0, .slice x1 n1 g1, .slice x2 n2 g2, .slice x3 n3 g3] 28 (0, 0)) := by rw [hw5]; exact B.heap_new _ _
        obtain ⟨N, hO⟩ := OH.of hv hb45 hy5
        have hlt0 := HW.out.lt
        have hso := HW.out.l.size
        have hs45 := hb45.size
        have hs4 := hb4.size
        have hDR := HW.out
        obtain ⟨v0, v1, v2, v3, U, sl, hd0, hU⟩ := hDR
        have hlow : ∀ {e z n : Nat} {v : Value} {xs : List Value}, wo.ownsRow w2.heap.size e z v n xs → ∀ q, v.ownBlock = some q → q < wo.heap.size := fun h q hq => (h.lt q hq).2
        have hd := hd0.call hb5
        obtain ⟨b2, o2, rfl, hbt, hct⟩ := tok_at (Row.below HT.out (Nat.le_refl _) hl5) (i := st) (by omega)
        obtain ⟨_, _, _, d3⟩ := hct st (by omega)
        have hloc := loc_at (toks := toks) (k := st) (by omega)
        obtain ⟨t, ht⟩ : ∃ t, toks[st]! = t := ⟨_, rfl⟩
        rw [ht] at d3 hloc
        have hst1 : st < toks.length := by omega
        have hst0 : (0 : Int) ≤ (st : Int) := Int.natCast_nonneg _
        have hsti : (st : Int) < (toks.length : Int) := by omega
        have HTK : Hid (ls.take (k + 1) = ls.take k ++ [T.map bare]) := Lib.hid (by rw [List.take_add_one, HLK.out]; rfl)
        have HG1 : Hid ((ls.take (k + 1)).all (fun l => !(stS l).2) = true) := Lib.hid (by rw [HTK.out, List.all_append, HG.out]; simp [hq])
        have HS1 : Hid (szL (ls.take (k + 1)) = st + (T.length + 1)) := Lib.hid (by rw [HTK.out, sz_app, HST.out]; simp [szL])
        have hp5 : partNo (P3.stV (T.map bare)) < 5 := by rcases part_of (P3.stV (T.map bare)) with h | h | h | h <;> omega
        have hbl : (blOf (ls.take k) toks (partNo (P3.stV (T.map bare)))).length ≤ 5000 := by
          rw [bl_len]
          have h1 := List.length_filter_le (fun v => partNo v == partNo (P3.stV (T.map bare))) ((ls.take k).map P3.stV)
          rw [List.length_map, List.length_take] at h1; omega
        have hVB := bl_snoc (ls.take k) toks (T.map bare)
        have e0 := own_len hO.o0
        have e1 := own_len hO.o1
        have e2 := own_len hO.o2
        have e3 := own_len hO.o3
        subst e0 e1 e2 e3
        have ho1 := one_of (P3.stV (T.map bare))
        have hgb0 : w2.heap.size < wo.heap.size := hlt0.1
        have hbb0 : w2.heap.size + 1 + 1 + 1 + 1 + 1 + 1 < wo.heap.size := hlt0.2
        have hlowp := hlow (hd0.st _ hp5)
        have hlow0 := hlow hd0.o0
        have hlow1 := hlow hd0.o1
        have hlow2 := hlow hd0.o2
        have hlow3 := hlow hd0.o3
        have HD := Lib.hid hd
        have HO := Lib.hid hO
        have HLP := Lib.hid hlowp
        have HL0 := Lib.hid hlow0
        have HL1 := Lib.hid hlow1
        have HL2 := Lib.hid hlow2
        have HL3 := Lib.hid hlow3
        have HP5 := Lib.hid hp5
        have HVB := Lib.hid hVB
        have HU0 := Lib.hid hU
        have HN0 := Lib.hid hO.nb
        have hl4 := len_of ((ls.take k).map P3.stV)
        rw [List.length_map, List.length_take] at hl4
        have lU : U.length ≤ k := by have h := congrArg List.length hU; rw [List.length_map] at h; omega
        have lN : N.length ≤ 1 := by have h := congrArg List.length hO.nb; rw [List.length_map] at h; omega
        have HLX : Hid (locAt toks (szL (ls.take k)) = t.loc) := Lib.hid (by rw [HST.out]; exact hloc)
        obtain ⟨l0, l1, l2, l3⟩ := hl4
        obtain ⟨m0, m1, m2, m3⟩ := ho1
        have HLOC := Lib.hid hloc
        obtain ⟨y0, y1, y2, y3⟩ := hO.yc
        have HST1 := Lib.hid ((hd.st _ hp5).alloc (.cells #[.int .i64 (t.loc : Int)] 3))
        have cb := hd.bc hp5
        have fb := hd.fzb
        have HXN := Lib.hid (B.heap_new w5 (.cells #[.int .i64 (t.loc : Int)] 3))
        have HW' := Lib.hid (B.below_draws ((Below.refl w5.heap.size w5).alloc (Nat.le_refl _) (.cells #[.int .i64 (t.loc : Int)] 3)) 1)
        have hly := B.blk_lt hO.y
        have hlb := hd.ltb
        have hlg := hd.lt
        clear hlowp hlow0 hlow1 hlow2 hlow3 hlow hd hd0 hO hv hU hloc hct ht hVB hy5 hb45 hb5 hl5 hq HK HV HLN HG HW HX2 HB2 HLK HST CT hb4 vk hlt0
        obtain ⟨k0, a0, b0, c0, d0⟩ := info_parts C.info_gp
        have KA0 := Lib.hid a0
        have KB0 := Lib.hid b0
        have KC0 := Lib.hid c0
        have KD0 := Lib.hid d0
        clear a0 b0 c0 d0
        obtain ⟨k1, a1, b1, c1, d1⟩ := info_parts C.info_ev
        have KA1 := Lib.hid a1
        have KB1 := Lib.hid b1
        have KC1 := Lib.hid c1
        have KD1 := Lib.hid d1
        clear a1 b1 c1 d1
        obtain ⟨k2, a2, b2, c2, d2⟩ := info_parts C.info_rl
        have KA2 := Lib.hid a2
        have KB2 := Lib.hid b2
        have KC2 := Lib.hid c2
        have KD2 := Lib.hid d2
        clear a2 b2 c2 d2
        obtain ⟨k3, a3, b3, c3, d3⟩ := info_parts C.info_us
        have KA3 := Lib.hid a3
        have KB3 := Lib.hid b3
        have KC3 := Lib.hid c3
        have KD3 := Lib.hid d3
        clear a3 b3 c3 d3
        obtain ⟨ii, hii0, hii1, hii2, hii3⟩ := info_parts info_int1
        have HII0 := Lib.hid hii0
        have HII1 := Lib.hid hii1
        have HII2 := Lib.hid hii2
        have HII3 := Lib.hid hii3
        clear hii0 hii1 hii2 hii3
        have hpn := part_of (P3.stV (T.map bare))
        generalize hG0 : gsOf ((ls.take k).map P3.stV) = G0 at *
        generalize hE0 : esOf ((ls.take k).map P3.stV) = E0 at *
        generalize hR0 : rsOf ((ls.take k).map P3.stV) = R0 at *
        generalize hBL : blOf (ls.take k) toks = BL at *
        have HG0 := Lib.hid hG0
        have HE0 := Lib.hid hE0
        have HR0 := Lib.hid hR0
        have HBL := Lib.hid hBL
        clear hG0 hE0 hR0 hBL
        generalize hpv : P3.stV (T.map bare) = pv at *
        have HPV := Lib.hid hpv
        clear hpv
        generalize hpp : partNo pv = p at *
        have HPP := Lib.hid hpp
        clear hpp
        have hlen5 : ((BL p).length : Nat) ≤ 5000 := hbl
        rcases hpn with ⟨rfl, q0, q1, q2⟩ | ⟨rfl, q0, q1, q2⟩ | ⟨rfl, q0, q1, q2⟩ | ⟨rfl, q0, q1, q2⟩
        · have r0 : ((gsOf [pv]).length : Int) > 0 := by omega
          have r1 : ¬ ((esOf [pv]).length : Int) > 0 := by omega
          have r2 : ¬ ((rsOf [pv]).length : Int) > 0 := by omega
          clear q0 q1 q2
          go_wp2_with fail
          rw [← hw5]
          clear hw5
          go_region_law (first
            | (refine step_append1 rfl (.tmp 91) (.tmp 97) 49 rfl w2.heap.size 3 ii _ 1 8 Tryz.underlying49 HII0.out HII1.out HII2.out HII3.out rfl (by omega) _ _ _ rfl HST1.out ⟨w5.heap.size, 0, none⟩ 1 1 [.int .i64 (t.loc : Int)] rfl rfl (fun j u hj => by rw [Addr.add_lit, Nat.zero_add]; exact B.cell_blk HXN.out (by simpa using hj)) (by intro u hu; simp at hu; subst hu; rfl) (by unfold maxLen; omega) (by omega) (by simp; omega) ?_; intro v' w9 hown' hgrow hat; obtain ⟨pa, pc, rfl⟩ := B.own_slice hown'; have HD1 := Lib.hid ((HD.out.call HW'.out).putS HP5.out hown' hgrow hat); have HO1 := Lib.hid ((HO.out.below HW'.out).past (gb := (w2.heap.size + 1 + 1 + 1 + 1 + 1 + 1)) (i := 1) (u := .slice pa ((BL 1).length + 1) pc) ((HD.out.call HW'.out).st 1 HP5.out) HLP.out hgrow hbb0 hs4 (by decide)); have hf := (HD.out.call HW'.out).midS HP5.out hgrow; have f9 := B.frozen_blk (i := 1) hf; have q9 := B.cell_blk (i := 1) hf rfl; have l9 := B.blk_lt hf; clear hown' hgrow hat hf))
          all_goals
            obtain ⟨wA, hwA⟩ : ∃ wA, wA = w9.setCell ⟨(w2.heap.size + 1 + 1 + 1 + 1 + 1 + 1), 1, none⟩ (.slice pa ((BL 1).length + 1) pc) := ⟨_, rfl⟩
            rw [← hwA] at HD1 HO1 ⊢
            clear hwA f9 q9 l9 y0 y1 y2 y3 cb fb HD HO HST1 HXN HW' hly hlb hlg
            obtain ⟨y0, y1, y2, y3⟩ := HO1.out.yc
            obtain ⟨c0, c1, c2, c3⟩ := HD1.out.gc
            have fz := HD1.out.fz
            have hly := B.blk_lt HO1.out.y
            have hlg := HD1.out.lt
            have hsA := HD1.out.l.size
            go_wp2_with (at_builtin; refine wpList_append_any rfl (.tmp 101) (.tmp 103) 23 rfl w2.heap.size 37 k0 _ 2 32 Tryz.underlying23 KA0.out KB0.out KC0.out KD0.out rfl (by omega) _ _ _ rfl HD1.out.o0 _ _ _ ((gsOf [pv]).flatMap gpC) rfl (fun e => by have h := B.own_cap HO1.out.o0; have := h.2 e; omega) HO1.out.o0.1 (Row.of_own HO1.out.o0) (one_gps _) (by unfold maxLen; omega) (by omega) (by omega) ?_)
            intro v' wB0 hown' hgrow
            obtain ⟨pa0, pc0, rfl⟩ := B.own_slice hown'
            have HD2 := Lib.hid (HD1.out.put0 hown' hgrow)
            have HO2 := Lib.hid (HO1.out.past (gb := w2.heap.size) (i := 0) (u := .slice pa0 (G0.length + (gsOf [pv]).length) pc0) HD1.out.o0 HL0.out hgrow hgb0 hs4 (by decide))
            have hf := HD1.out.mid0 hgrow
            have hy9 := (hgrow.block _ (B.blk_lt HO1.out.y) (fun e => B.own_far HD1.out.o0 HO1.out.y (by decide) e.symm)).trans HO1.out.y
            have f9 := B.frozen_blk (i := 0) hf
            clear hown' hgrow y0 y1 y2 y3 c0 c1 c2 c3 fz hly hlg hsA
            have c0 := B.cell_blk (i := 0) hf rfl
            have c1 := B.cell_blk (i := 1) hf rfl
            have c2 := B.cell_blk (i := 2) hf rfl
            have c3 := B.cell_blk (i := 3) hf rfl
            have y0 := B.cell_blk (i := 0) hy9 rfl
            have y1 := B.cell_blk (i := 1) hy9 rfl
            have y2 := B.cell_blk (i := 2) hy9 rfl
            have y3 := B.cell_blk (i := 3) hy9 rfl
            have fz := f9
            have hly := B.blk_lt hy9
            have hlg := B.blk_lt hf
            have hsA := HD2.out.l.size
            have hgy : w2.heap.size ≠ w4.heap.size := by omega
            have hyg : w4.heap.size ≠ w2.heap.size := by omega
            clear hf hy9 f9
            go_wp2_with (at_builtin; refine wpList_append_any rfl (.tmp 107) (.tmp 109) 24 rfl w2.heap.size 40 k1 _ 6 64 Tryz.underlying24 KA1.out KB1.out KC1.out KD1.out rfl (by omega) _ _ _ rfl HD2.out.o1 _ _ _ ((esOf [pv]).flatMap evC) rfl (fun e => by have h := B.own_cap HO2.out.o1; have := h.2 e; omega) HO2.out.o1.1 (Row.of_own HO2.out.o1) (one_evs _) (by unfold maxLen; omega) (by omega) (by omega) ?_)
            intro v' wB1 hown' hgrow
            obtain ⟨pa1, pc1, rfl⟩ := B.own_slice hown'
            have HD3 := Lib.hid (HD2.out.put1 hown' hgrow)
            have HO3 := Lib.hid (HO2.out.past (gb := w2.heap.size) (i := 1) (u := .slice pa1 (E0.length + (esOf [pv]).length) pc1) HD2.out.o1 HL1.out hgrow hgb0 hs4 (by decide))
            have hf := HD2.out.mid1 hgrow
            have hy9 := (hgrow.block _ (B.blk_lt HO2.out.y) (fun e => B.own_far HD2.out.o1 HO2.out.y (by decide) e.symm)).trans HO2.out.y
            have f9 := B.frozen_blk (i := 1) hf
            clear hown' hgrow y0 y1 y2 y3 c0 c1 c2 c3 fz hly hlg hsA
            have c0 := B.cell_blk (i := 0) hf rfl
            have c1 := B.cell_blk (i := 1) hf rfl
            have c2 := B.cell_blk (i := 2) hf rfl
            have c3 := B.cell_blk (i := 3) hf rfl
            have y0 := B.cell_blk (i := 0) hy9 rfl
            have y1 := B.cell_blk (i := 1) hy9 rfl
            have y2 := B.cell_blk (i := 2) hy9 rfl
            have y3 := B.cell_blk (i := 3) hy9 rfl
            have fz := f9
            have hly := B.blk_lt hy9
            have hlg := B.blk_lt hf
            have hsA := HD3.out.l.size
            have hgy : w2.heap.size ≠ w4.heap.size := by omega
            have hyg : w4.heap.size ≠ w2.heap.size := by omega
            clear hf hy9 f9
            go_wp2_with (at_builtin; refine wpList_append_any rfl (.tmp 113) (.tmp 115) 25 rfl w2.heap.size 42 k2 _ 4 48 Tryz.underlying25 KA2.out KB2.out KC2.out KD2.out rfl (by omega) _ _ _ rfl HD3.out.o2 _ _ _ ((rsOf [pv]).flatMap rlC) rfl (fun e => by have h := B.own_cap HO3.out.o2; have := h.2 e; omega) HO3.out.o2.1 (Row.of_own HO3.out.o2) (one_rls _) (by unfold maxLen; omega) (by omega) (by omega) ?_)
            intro v' wB2 hown' hgrow
            obtain ⟨pa2, pc2, rfl⟩ := B.own_slice hown'
            have HD4 := Lib.hid (HD3.out.put2 hown' hgrow)
            have HO4 := Lib.hid (HO3.out.past (gb := w2.heap.size) (i := 2) (u := .slice pa2 (R0.length + (rsOf [pv]).length) pc2) HD3.out.o2 HL2.out hgrow hgb0 hs4 (by decide))
            have hf := HD3.out.mid2 hgrow
            have hy9 := (hgrow.block _ (B.blk_lt HO3.out.y) (fun e => B.own_far HD3.out.o2 HO3.out.y (by decide) e.symm)).trans HO3.out.y
            have f9 := B.frozen_blk (i := 2) hf
            clear hown' hgrow y0 y1 y2 y3 c0 c1 c2 c3 fz hly hlg hsA
            have c0 := B.cell_blk (i := 0) hf rfl
            have c1 := B.cell_blk (i := 1) hf rfl
            have c2 := B.cell_blk (i := 2) hf rfl
            have c3 := B.cell_blk (i := 3) hf rfl
            have y0 := B.cell_blk (i := 0) hy9 rfl
            have y1 := B.cell_blk (i := 1) hy9 rfl
            have y2 := B.cell_blk (i := 2) hy9 rfl
            have y3 := B.cell_blk (i := 3) hy9 rfl
            have fz := f9
            have hly := B.blk_lt hy9
            have hlg := B.blk_lt hf
            have hsA := HD4.out.l.size
            have hgy : w2.heap.size ≠ w4.heap.size := by omega
            have hyg : w4.heap.size ≠ w2.heap.size := by omega
            clear hf hy9 f9
            go_wp2_with (at_builtin; refine wpList_append_any rfl (.tmp 119) (.tmp 121) 26 rfl w2.heap.size 74 k3 _ 3 56 Tryz.underlying26 KA3.out KB3.out KC3.out KD3.out rfl (by omega) _ _ _ rfl HD4.out.o3 _ _ _ (N.flatMap usC) rfl (fun e => by have h := B.own_cap HO4.out.o3; have := h.2 e; omega) HO4.out.o3.1 (Row.of_own HO4.out.o3) (one_uss _) (by unfold maxLen; omega) (by omega) (by omega) ?_)
            intro v' wB3 hown' hgrow
            obtain ⟨pa3, pc3, rfl⟩ := B.own_slice hown'
            have HD5 := Lib.hid (HD4.out.put3 hown' hgrow (fun u hu => B.own_base (HO4.out.ro u hu) hso))
            have HO5 := Lib.hid (HO4.out.past (gb := w2.heap.size) (i := 3) (u := .slice pa3 (U.length + N.length) pc3) HD4.out.o3 HL3.out hgrow hgb0 hs4 (by decide))
            have vk := ((HD4.out.l.grown hgrow HD4.out.l.size (fun q hq => (HD4.out.o3.lt q hq).1)).cell (p := ⟨vb, vo + k, none⟩) HVB2.out).trans HVK.out
            have hf := HD4.out.mid3 hgrow
            have hy9 := (hgrow.block _ (B.blk_lt HO4.out.y) (fun e => B.own_far HD4.out.o3 HO4.out.y (by decide) e.symm)).trans HO4.out.y
            have f9 := B.frozen_blk (i := 3) hf
            clear hown' hgrow y0 y1 y2 y3 c0 c1 c2 c3 fz hly hlg hsA
            have c0 := B.cell_blk (i := 0) hf rfl
            have c1 := B.cell_blk (i := 1) hf rfl
            have c2 := B.cell_blk (i := 2) hf rfl
            have c3 := B.cell_blk (i := 3) hf rfl
            have y0 := B.cell_blk (i := 0) hy9 rfl
            have y1 := B.cell_blk (i := 1) hy9 rfl
            have y2 := B.cell_blk (i := 2) hy9 rfl
            have y3 := B.cell_blk (i := 3) hy9 rfl
            have fz := f9
            have hly := B.blk_lt hy9
            have hlg := B.blk_lt hf
            have hsA := HD5.out.l.size
            have hgy : w2.heap.size ≠ w4.heap.size := by omega
            have hyg : w4.heap.size ≠ w2.heap.size := by omega
            clear hf hy9 f9
            have h5 := HD5.out
            rw [← HG0.out, ← HE0.out, ← HR0.out, ← HBL.out] at h5
            have HF := Lib.hid (DR.snoc h5 HPV.out HPP.out HLX.out HU0.out HN0.out)
            clear h5
            have hk0' : (0 : Int) ≤ (k : Int) := Int.natCast_nonneg _
            have hkl' : (k : Int) < (n : Int) := by omega
            have hvl := HD5.out.l.size
            go_wp2_with fail
            go_roundw
            case rel => exact ⟨k + 1, hkl, by rw [HS1.out]; go_num, by go_num, HG1, by rw [HTK.out]; exact HF⟩
            case measure => simp [intOf]; omega
        · have r0 : ¬ ((gsOf [pv]).length : Int) > 0 := by omega
          have r1 : ((esOf [pv]).length : Int) > 0 := by omega
          have r2 : ¬ ((rsOf [pv]).length : Int) > 0 := by omega
          clear q0 q1 q2
          go_wp2_with fail
          rw [← hw5]
          clear hw5
          go_region_law (first
            | (refine step_append1 rfl (.tmp 91) (.tmp 97) 49 rfl w2.heap.size 3 ii _ 1 8 Tryz.underlying49 HII0.out HII1.out HII2.out HII3.out rfl (by omega) _ _ _ rfl HST1.out ⟨w5.heap.size, 0, none⟩ 1 1 [.int .i64 (t.loc : Int)] rfl rfl (fun j u hj => by rw [Addr.add_lit, Nat.zero_add]; exact B.cell_blk HXN.out (by simpa using hj)) (by intro u hu; simp at hu; subst hu; rfl) (by unfold maxLen; omega) (by omega) (by simp; omega) ?_; intro v' w9 hown' hgrow hat; obtain ⟨pa, pc, rfl⟩ := B.own_slice hown'; have HD1 := Lib.hid ((HD.out.call HW'.out).putS HP5.out hown' hgrow hat); have HO1 := Lib.hid ((HO.out.below HW'.out).past (gb := (w2.heap.size + 1 + 1 + 1 + 1 + 1 + 1)) (i := 2) (u := .slice pa ((BL 2).length + 1) pc) ((HD.out.call HW'.out).st 2 HP5.out) HLP.out hgrow hbb0 hs4 (by decide)); have hf := (HD.out.call HW'.out).midS HP5.out hgrow; have f9 := B.frozen_blk (i := 2) hf; have q9 := B.cell_blk (i := 2) hf rfl; have l9 := B.blk_lt hf; clear hown' hgrow hat hf))
          all_goals
            obtain ⟨wA, hwA⟩ : ∃ wA, wA = w9.setCell ⟨(w2.heap.size + 1 + 1 + 1 + 1 + 1 + 1), 2, none⟩ (.slice pa ((BL 2).length + 1) pc) := ⟨_, rfl⟩
            rw [← hwA] at HD1 HO1 ⊢
            clear hwA f9 q9 l9 y0 y1 y2 y3 cb fb HD HO HST1 HXN HW' hly hlb hlg
            obtain ⟨y0, y1, y2, y3⟩ := HO1.out.yc
            obtain ⟨c0, c1, c2, c3⟩ := HD1.out.gc
            have fz := HD1.out.fz
            have hly := B.blk_lt HO1.out.y
            have hlg := HD1.out.lt
            have hsA := HD1.out.l.size
            go_wp2_with (at_builtin; refine wpList_append_any rfl (.tmp 101) (.tmp 103) 23 rfl w2.heap.size 37 k0 _ 2 32 Tryz.underlying23 KA0.out KB0.out KC0.out KD0.out rfl (by omega) _ _ _ rfl HD1.out.o0 _ _ _ ((gsOf [pv]).flatMap gpC) rfl (fun e => by have h := B.own_cap HO1.out.o0; have := h.2 e; omega) HO1.out.o0.1 (Row.of_own HO1.out.o0) (one_gps _) (by unfold maxLen; omega) (by omega) (by omega) ?_)
            intro v' wB0 hown' hgrow
            obtain ⟨pa0, pc0, rfl⟩ := B.own_slice hown'
            have HD2 := Lib.hid (HD1.out.put0 hown' hgrow)
            have HO2 := Lib.hid (HO1.out.past (gb := w2.heap.size) (i := 0) (u := .slice pa0 (G0.length + (gsOf [pv]).length) pc0) HD1.out.o0 HL0.out hgrow hgb0 hs4 (by decide))
            have hf := HD1.out.mid0 hgrow
            have hy9 := (hgrow.block _ (B.blk_lt HO1.out.y) (fun e => B.own_far HD1.out.o0 HO1.out.y (by decide) e.symm)).trans HO1.out.y
            have f9 := B.frozen_blk (i := 0) hf
            clear hown' hgrow y0 y1 y2 y3 c0 c1 c2 c3 fz hly hlg hsA
            have c0 := B.cell_blk (i := 0) hf rfl
            have c1 := B.cell_blk (i := 1) hf rfl
            have c2 := B.cell_blk (i := 2) hf rfl
            have c3 := B.cell_blk (i := 3) hf rfl
            have y0 := B.cell_blk (i := 0) hy9 rfl
            have y1 := B.cell_blk (i := 1) hy9 rfl
            have y2 := B.cell_blk (i := 2) hy9 rfl
            have y3 := B.cell_blk (i := 3) hy9 rfl
            have fz := f9
            have hly := B.blk_lt hy9
            have hlg := B.blk_lt hf
            have hsA := HD2.out.l.size
            have hgy : w2.heap.size ≠ w4.heap.size := by omega
            have hyg : w4.heap.size ≠ w2.heap.size := by omega
            clear hf hy9 f9
            go_wp2_with (at_builtin; refine wpList_append_any rfl (.tmp 107) (.tmp 109) 24 rfl w2.heap.size 40 k1 _ 6 64 Tryz.underlying24 KA1.out KB1.out KC1.out KD1.out rfl (by omega) _ _ _ rfl HD2.out.o1 _ _ _ ((esOf [pv]).flatMap evC) rfl (fun e => by have h := B.own_cap HO2.out.o1; have := h.2 e; omega) HO2.out.o1.1 (Row.of_own HO2.out.o1) (one_evs _) (by unfold maxLen; omega) (by omega) (by omega) ?_)
            intro v' wB1 hown' hgrow
            obtain ⟨pa1, pc1, rfl⟩ := B.own_slice hown'
            have HD3 := Lib.hid (HD2.out.put1 hown' hgrow)
            have HO3 := Lib.hid (HO2.out.past (gb := w2.heap.size) (i := 1) (u := .slice pa1 (E0.length + (esOf [pv]).length) pc1) HD2.out.o1 HL1.out hgrow hgb0 hs4 (by decide))
            have hf := HD2.out.mid1 hgrow
            have hy9 := (hgrow.block _ (B.blk_lt HO2.out.y) (fun e => B.own_far HD2.out.o1 HO2.out.y (by decide) e.symm)).trans HO2.out.y
            have f9 := B.frozen_blk (i := 1) hf
            clear hown' hgrow y0 y1 y2 y3 c0 c1 c2 c3 fz hly hlg hsA
            have c0 := B.cell_blk (i := 0) hf rfl
            have c1 := B.cell_blk (i := 1) hf rfl
            have c2 := B.cell_blk (i := 2) hf rfl
            have c3 := B.cell_blk (i := 3) hf rfl
            have y0 := B.cell_blk (i := 0) hy9 rfl
            have y1 := B.cell_blk (i := 1) hy9 rfl
            have y2 := B.cell_blk (i := 2) hy9 rfl
            have y3 := B.cell_blk (i := 3) hy9 rfl
            have fz := f9
            have hly := B.blk_lt hy9
            have hlg := B.blk_lt hf
            have hsA := HD3.out.l.size
            have hgy : w2.heap.size ≠ w4.heap.size := by omega
            have hyg : w4.heap.size ≠ w2.heap.size := by omega
            clear hf hy9 f9
            go_wp2_with (at_builtin; refine wpList_append_any rfl (.tmp 113) (.tmp 115) 25 rfl w2.heap.size 42 k2 _ 4 48 Tryz.underlying25 KA2.out KB2.out KC2.out KD2.out rfl (by omega) _ _ _ rfl HD3.out.o2 _ _ _ ((rsOf [pv]).flatMap rlC) rfl (fun e => by have h := B.own_cap HO3.out.o2; have := h.2 e; omega) HO3.out.o2.1 (Row.of_own HO3.out.o2) (one_rls _) (by unfold maxLen; omega) (by omega) (by omega) ?_)
            intro v' wB2 hown' hgrow
            obtain ⟨pa2, pc2, rfl⟩ := B.own_slice hown'
            have HD4 := Lib.hid (HD3.out.put2 hown' hgrow)
            have HO4 := Lib.hid (HO3.out.past (gb := w2.heap.size) (i := 2) (u := .slice pa2 (R0.length + (rsOf [pv]).length) pc2) HD3.out.o2 HL2.out hgrow hgb0 hs4 (by decide))
            have hf := HD3.out.mid2 hgrow
            have hy9 := (hgrow.block _ (B.blk_lt HO3.out.y) (fun e => B.own_far HD3.out.o2 HO3.out.y (by decide) e.symm)).trans HO3.out.y
            have f9 := B.frozen_blk (i := 2) hf
            clear hown' hgrow y0 y1 y2 y3 c0 c1 c2 c3 fz hly hlg hsA
            have c0 := B.cell_blk (i := 0) hf rfl
            have c1 := B.cell_blk (i := 1) hf rfl
            have c2 := B.cell_blk (i := 2) hf rfl
            have c3 := B.cell_blk (i := 3) hf rfl
            have y0 := B.cell_blk (i := 0) hy9 rfl
            have y1 := B.cell_blk (i := 1) hy9 rfl
            have y2 := B.cell_blk (i := 2) hy9 rfl
            have y3 := B.cell_blk (i := 3) hy9 rfl
            have fz := f9
            have hly := B.blk_lt hy9
            have hlg := B.blk_lt hf
            have hsA := HD4.out.l.size
            have hgy : w2.heap.size ≠ w4.heap.size := by omega
            have hyg : w4.heap.size ≠ w2.heap.size := by omega
            clear hf hy9 f9
            go_wp2_with (at_builtin; refine wpList_append_any rfl (.tmp 119) (.tmp 121) 26 rfl w2.heap.size 74 k3 _ 3 56 Tryz.underlying26 KA3.out KB3.out KC3.out KD3.out rfl (by omega) _ _ _ rfl HD4.out.o3 _ _ _ (N.flatMap usC) rfl (fun e => by have h := B.own_cap HO4.out.o3; have := h.2 e; omega) HO4.out.o3.1 (Row.of_own HO4.out.o3) (one_uss _) (by unfold maxLen; omega) (by omega) (by omega) ?_)
            intro v' wB3 hown' hgrow
            obtain ⟨pa3, pc3, rfl⟩ := B.own_slice hown'
            have HD5 := Lib.hid (HD4.out.put3 hown' hgrow (fun u hu => B.own_base (HO4.out.ro u hu) hso))
            have HO5 := Lib.hid (HO4.out.past (gb := w2.heap.size) (i := 3) (u := .slice pa3 (U.length + N.length) pc3) HD4.out.o3 HL3.out hgrow hgb0 hs4 (by decide))
            have vk := ((HD4.out.l.grown hgrow HD4.out.l.size (fun q hq => (HD4.out.o3.lt q hq).1)).cell (p := ⟨vb, vo + k, none⟩) HVB2.out).trans HVK.out
            have hf := HD4.out.mid3 hgrow
            have hy9 := (hgrow.block _ (B.blk_lt HO4.out.y) (fun e => B.own_far HD4.out.o3 HO4.out.y (by decide) e.symm)).trans HO4.out.y
            have f9 := B.frozen_blk (i := 3) hf
            clear hown' hgrow y0 y1 y2 y3 c0 c1 c2 c3 fz hly hlg hsA
            have c0 := B.cell_blk (i := 0) hf rfl
            have c1 := B.cell_blk (i := 1) hf rfl
            have c2 := B.cell_blk (i := 2) hf rfl
            have c3 := B.cell_blk (i := 3) hf rfl
            have y0 := B.cell_blk (i := 0) hy9 rfl
            have y1 := B.cell_blk (i := 1) hy9 rfl
            have y2 := B.cell_blk (i := 2) hy9 rfl
            have y3 := B.cell_blk (i := 3) hy9 rfl
            have fz := f9
            have hly := B.blk_lt hy9
            have hlg := B.blk_lt hf
            have hsA := HD5.out.l.size
            have hgy : w2.heap.size ≠ w4.heap.size := by omega
            have hyg : w4.heap.size ≠ w2.heap.size := by omega
            clear hf hy9 f9
            have h5 := HD5.out
            rw [← HG0.out, ← HE0.out, ← HR0.out, ← HBL.out] at h5
            have HF := Lib.hid (DR.snoc h5 HPV.out HPP.out HLX.out HU0.out HN0.out)
            clear h5
            have hk0' : (0 : Int) ≤ (k : Int) := Int.natCast_nonneg _
            have hkl' : (k : Int) < (n : Int) := by omega
            have hvl := HD5.out.l.size
            go_wp2_with fail
            go_roundw
            case rel => exact ⟨k + 1, hkl, by rw [HS1.out]; go_num, by go_num, HG1, by rw [HTK.out]; exact HF⟩
            case measure => simp [intOf]; omega
        · have r0 : ¬ ((gsOf [pv]).length : Int) > 0 := by omega
          have r1 : ¬ ((esOf [pv]).length : Int) > 0 := by omega
          have r2 : ((rsOf [pv]).length : Int) > 0 := by omega
          clear q0 q1 q2
          go_wp2_with fail
          rw [← hw5]
          clear hw5
          go_region_law (first
            | (refine step_append1 rfl (.tmp 91) (.tmp 97) 49 rfl w2.heap.size 3 ii _ 1 8 Tryz.underlying49 HII0.out HII1.out HII2.out HII3.out rfl (by omega) _ _ _ rfl HST1.out ⟨w5.heap.size, 0, none⟩ 1 1 [.int .i64 (t.loc : Int)] rfl rfl (fun j u hj => by rw [Addr.add_lit, Nat.zero_add]; exact B.cell_blk HXN.out (by simpa using hj)) (by intro u hu; simp at hu; subst hu; rfl) (by unfold maxLen; omega) (by omega) (by simp; omega) ?_; intro v' w9 hown' hgrow hat; obtain ⟨pa, pc, rfl⟩ := B.own_slice hown'; have HD1 := Lib.hid ((HD.out.call HW'.out).putS HP5.out hown' hgrow hat); have HO1 := Lib.hid ((HO.out.below HW'.out).past (gb := (w2.heap.size + 1 + 1 + 1 + 1 + 1 + 1)) (i := 3) (u := .slice pa ((BL 3).length + 1) pc) ((HD.out.call HW'.out).st 3 HP5.out) HLP.out hgrow hbb0 hs4 (by decide)); have hf := (HD.out.call HW'.out).midS HP5.out hgrow; have f9 := B.frozen_blk (i := 3) hf; have q9 := B.cell_blk (i := 3) hf rfl; have l9 := B.blk_lt hf; clear hown' hgrow hat hf))
          all_goals
            obtain ⟨wA, hwA⟩ : ∃ wA, wA = w9.setCell ⟨(w2.heap.size + 1 + 1 + 1 + 1 + 1 + 1), 3, none⟩ (.slice pa ((BL 3).length + 1) pc) := ⟨_, rfl⟩
            rw [← hwA] at HD1 HO1 ⊢
            clear hwA f9 q9 l9 y0 y1 y2 y3 cb fb HD HO HST1 HXN HW' hly hlb hlg
            obtain ⟨y0, y1, y2, y3⟩ := HO1.out.yc
            obtain ⟨c0, c1, c2, c3⟩ := HD1.out.gc
            have fz := HD1.out.fz
            have hly := B.blk_lt HO1.out.y
            have hlg := HD1.out.lt
            have hsA := HD1.out.l.size
            go_wp2_with (at_builtin; refine wpList_append_any rfl (.tmp 101) (.tmp 103) 23 rfl w2.heap.size 37 k0 _ 2 32 Tryz.underlying23 KA0.out KB0.out KC0.out KD0.out rfl (by omega) _ _ _ rfl HD1.out.o0 _ _ _ ((gsOf [pv]).flatMap gpC) rfl (fun e => by have h := B.own_cap HO1.out.o0; have := h.2 e; omega) HO1.out.o0.1 (Row.of_own HO1.out.o0) (one_gps _) (by unfold maxLen; omega) (by omega) (by omega) ?_)
            intro v' wB0 hown' hgrow
            obtain ⟨pa0, pc0, rfl⟩ := B.own_slice hown'
            have HD2 := Lib.hid (HD1.out.put0 hown' hgrow)
            have HO2 := Lib.hid (HO1.out.past (gb := w2.heap.size) (i := 0) (u := .slice pa0 (G0.length + (gsOf [pv]).length) pc0) HD1.out.o0 HL0.out hgrow hgb0 hs4 (by decide))
            have hf := HD1.out.mid0 hgrow
            have hy9 := (hgrow.block _ (B.blk_lt HO1.out.y) (fun e => B.own_far HD1.out.o0 HO1.out.y (by decide) e.symm)).trans HO1.out.y
            have f9 := B.frozen_blk (i := 0) hf
            clear hown' hgrow y0 y1 y2 y3 c0 c1 c2 c3 fz hly hlg hsA
            have c0 := B.cell_blk (i := 0) hf rfl
            have c1 := B.cell_blk (i := 1) hf rfl
            have c2 := B.cell_blk (i := 2) hf rfl
            have c3 := B.cell_blk (i := 3) hf rfl
            have y0 := B.cell_blk (i := 0) hy9 rfl
            have y1 := B.cell_blk (i := 1) hy9 rfl
            have y2 := B.cell_blk (i := 2) hy9 rfl
            have y3 := B.cell_blk (i := 3) hy9 rfl
            have fz := f9
            have hly := B.blk_lt hy9
            have hlg := B.blk_lt hf
            have hsA := HD2.out.l.size
            have hgy : w2.heap.size ≠ w4.heap.size := by omega
            have hyg : w4.heap.size ≠ w2.heap.size := by omega
            clear hf hy9 f9
            go_wp2_with (at_builtin; refine wpList_append_any rfl (.tmp 107) (.tmp 109) 24 rfl w2.heap.size 40 k1 _ 6 64 Tryz.underlying24 KA1.out KB1.out KC1.out KD1.out rfl (by omega) _ _ _ rfl HD2.out.o1 _ _ _ ((esOf [pv]).flatMap evC) rfl (fun e => by have h := B.own_cap HO2.out.o1; have := h.2 e; omega) HO2.out.o1.1 (Row.of_own HO2.out.o1) (one_evs _) (by unfold maxLen; omega) (by omega) (by omega) ?_)
            intro v' wB1 hown' hgrow
            obtain ⟨pa1, pc1, rfl⟩ := B.own_slice hown'
            have HD3 := Lib.hid (HD2.out.put1 hown' hgrow)
            have HO3 := Lib.hid (HO2.out.past (gb := w2.heap.size) (i := 1) (u := .slice pa1 (E0.length + (esOf [pv]).length) pc1) HD2.out.o1 HL1.out hgrow hgb0 hs4 (by decide))
            have hf := HD2.out.mid1 hgrow
            have hy9 := (hgrow.block _ (B.blk_lt HO2.out.y) (fun e => B.own_far HD2.out.o1 HO2.out.y (by decide) e.symm)).trans HO2.out.y
            have f9 := B.frozen_blk (i := 1) hf
            clear hown' hgrow y0 y1 y2 y3 c0 c1 c2 c3 fz hly hlg hsA
            have c0 := B.cell_blk (i := 0) hf rfl
            have c1 := B.cell_blk (i := 1) hf rfl
            have c2 := B.cell_blk (i := 2) hf rfl
            have c3 := B.cell_blk (i := 3) hf rfl
            have y0 := B.cell_blk (i := 0) hy9 rfl
            have y1 := B.cell_blk (i := 1) hy9 rfl
            have y2 := B.cell_blk (i := 2) hy9 rfl
            have y3 := B.cell_blk (i := 3) hy9 rfl
            have fz := f9
            have hly := B.blk_lt hy9
            have hlg := B.blk_lt hf
            have hsA := HD3.out.l.size
            have hgy : w2.heap.size ≠ w4.heap.size := by omega
            have hyg : w4.heap.size ≠ w2.heap.size := by omega
            clear hf hy9 f9
            go_wp2_with (at_builtin; refine wpList_append_any rfl (.tmp 113) (.tmp 115) 25 rfl w2.heap.size 42 k2 _ 4 48 Tryz.underlying25 KA2.out KB2.out KC2.out KD2.out rfl (by omega) _ _ _ rfl HD3.out.o2 _ _ _ ((rsOf [pv]).flatMap rlC) rfl (fun e => by have h := B.own_cap HO3.out.o2; have := h.2 e; omega) HO3.out.o2.1 (Row.of_own HO3.out.o2) (one_rls _) (by unfold maxLen; omega) (by omega) (by omega) ?_)
            intro v' wB2 hown' hgrow
            obtain ⟨pa2, pc2, rfl⟩ := B.own_slice hown'
            have HD4 := Lib.hid (HD3.out.put2 hown' hgrow)
            have HO4 := Lib.hid (HO3.out.past (gb := w2.heap.size) (i := 2) (u := .slice pa2 (R0.length + (rsOf [pv]).length) pc2) HD3.out.o2 HL2.out hgrow hgb0 hs4 (by decide))
            have hf := HD3.out.mid2 hgrow
            have hy9 := (hgrow.block _ (B.blk_lt HO3.out.y) (fun e => B.own_far HD3.out.o2 HO3.out.y (by decide) e.symm)).trans HO3.out.y
            have f9 := B.frozen_blk (i := 2) hf
            clear hown' hgrow y0 y1 y2 y3 c0 c1 c2 c3 fz hly hlg hsA
            have c0 := B.cell_blk (i := 0) hf rfl
            have c1 := B.cell_blk (i := 1) hf rfl
            have c2 := B.cell_blk (i := 2) hf rfl
            have c3 := B.cell_blk (i := 3) hf rfl
            have y0 := B.cell_blk (i := 0) hy9 rfl
            have y1 := B.cell_blk (i := 1) hy9 rfl
            have y2 := B.cell_blk (i := 2) hy9 rfl
            have y3 := B.cell_blk (i := 3) hy9 rfl
            have fz := f9
            have hly := B.blk_lt hy9
            have hlg := B.blk_lt hf
            have hsA := HD4.out.l.size
            have hgy : w2.heap.size ≠ w4.heap.size := by omega
            have hyg : w4.heap.size ≠ w2.heap.size := by omega
            clear hf hy9 f9
            go_wp2_with (at_builtin; refine wpList_append_any rfl (.tmp 119) (.tmp 121) 26 rfl w2.heap.size 74 k3 _ 3 56 Tryz.underlying26 KA3.out KB3.out KC3.out KD3.out rfl (by omega) _ _ _ rfl HD4.out.o3 _ _ _ (N.flatMap usC) rfl (fun e => by have h := B.own_cap HO4.out.o3; have := h.2 e; omega) HO4.out.o3.1 (Row.of_own HO4.out.o3) (one_uss _) (by unfold maxLen; omega) (by omega) (by omega) ?_)
            intro v' wB3 hown' hgrow
            obtain ⟨pa3, pc3, rfl⟩ := B.own_slice hown'
            have HD5 := Lib.hid (HD4.out.put3 hown' hgrow (fun u hu => B.own_base (HO4.out.ro u hu) hso))
            have HO5 := Lib.hid (HO4.out.past (gb := w2.heap.size) (i := 3) (u := .slice pa3 (U.length + N.length) pc3) HD4.out.o3 HL3.out hgrow hgb0 hs4 (by decide))
            have vk := ((HD4.out.l.grown hgrow HD4.out.l.size (fun q hq => (HD4.out.o3.lt q hq).1)).cell (p := ⟨vb, vo + k, none⟩) HVB2.out).trans HVK.out
            have hf := HD4.out.mid3 hgrow
            have hy9 := (hgrow.block _ (B.blk_lt HO4.out.y) (fun e => B.own_far HD4.out.o3 HO4.out.y (by decide) e.symm)).trans HO4.out.y
            have f9 := B.frozen_blk (i := 3) hf
            clear hown' hgrow y0 y1 y2 y3 c0 c1 c2 c3 fz hly hlg hsA
            have c0 := B.cell_blk (i := 0) hf rfl
            have c1 := B.cell_blk (i := 1) hf rfl
            have c2 := B.cell_blk (i := 2) hf rfl
            have c3 := B.cell_blk (i := 3) hf rfl
            have y0 := B.cell_blk (i := 0) hy9 rfl
            have y1 := B.cell_blk (i := 1) hy9 rfl
            have y2 := B.cell_blk (i := 2) hy9 rfl
            have y3 := B.cell_blk (i := 3) hy9 rfl
            have fz := f9
            have hly := B.blk_lt hy9
            have hlg := B.blk_lt hf
            have hsA := HD5.out.l.size
            have hgy : w2.heap.size ≠ w4.heap.size := by omega
            have hyg : w4.heap.size ≠ w2.heap.size := by omega
            clear hf hy9 f9
            have h5 := HD5.out
            rw [← HG0.out, ← HE0.out, ← HR0.out, ← HBL.out] at h5
            have HF := Lib.hid (DR.snoc h5 HPV.out HPP.out HLX.out HU0.out HN0.out)
            clear h5
            have hk0' : (0 : Int) ≤ (k : Int) := Int.natCast_nonneg _
            have hkl' : (k : Int) < (n : Int) := by omega
            have hvl := HD5.out.l.size
            go_wp2_with fail
            go_roundw
            case rel => exact ⟨k + 1, hkl, by rw [HS1.out]; go_num, by go_num, HG1, by rw [HTK.out]; exact HF⟩
            case measure => simp [intOf]; omega
        · have r0 : ¬ ((gsOf [pv]).length : Int) > 0 := by omega
          have r1 : ¬ ((esOf [pv]).length : Int) > 0 := by omega
          have r2 : ¬ ((rsOf [pv]).length : Int) > 0 := by omega
          clear q0 q1 q2
          go_wp2_with fail
          rw [← hw5]
          clear hw5
          go_region_law (first
            | (refine step_append1 rfl (.tmp 91) (.tmp 97) 49 rfl w2.heap.size 3 ii _ 1 8 Tryz.underlying49 HII0.out HII1.out HII2.out HII3.out rfl (by omega) _ _ _ rfl HST1.out ⟨w5.heap.size, 0, none⟩ 1 1 [.int .i64 (t.loc : Int)] rfl rfl (fun j u hj => by rw [Addr.add_lit, Nat.zero_add]; exact B.cell_blk HXN.out (by simpa using hj)) (by intro u hu; simp at hu; subst hu; rfl) (by unfold maxLen; omega) (by omega) (by simp; omega) ?_; intro v' w9 hown' hgrow hat; obtain ⟨pa, pc, rfl⟩ := B.own_slice hown'; have HD1 := Lib.hid ((HD.out.call HW'.out).putS HP5.out hown' hgrow hat); have HO1 := Lib.hid ((HO.out.below HW'.out).past (gb := (w2.heap.size + 1 + 1 + 1 + 1 + 1 + 1)) (i := 4) (u := .slice pa ((BL 4).length + 1) pc) ((HD.out.call HW'.out).st 4 HP5.out) HLP.out hgrow hbb0 hs4 (by decide)); have hf := (HD.out.call HW'.out).midS HP5.out hgrow; have f9 := B.frozen_blk (i := 4) hf; have q9 := B.cell_blk (i := 4) hf rfl; have l9 := B.blk_lt hf; clear hown' hgrow hat hf))
          all_goals
            obtain ⟨wA, hwA⟩ : ∃ wA, wA = w9.setCell ⟨(w2.heap.size + 1 + 1 + 1 + 1 + 1 + 1), 4, none⟩ (.slice pa ((BL 4).length + 1) pc) := ⟨_, rfl⟩
            rw [← hwA] at HD1 HO1 ⊢
            clear hwA f9 q9 l9 y0 y1 y2 y3 cb fb HD HO HST1 HXN HW' hly hlb hlg
            obtain ⟨y0, y1, y2, y3⟩ := HO1.out.yc
            obtain ⟨c0, c1, c2, c3⟩ := HD1.out.gc
            have fz := HD1.out.fz
            have hly := B.blk_lt HO1.out.y
            have hlg := HD1.out.lt
            have hsA := HD1.out.l.size
            go_wp2_with (at_builtin; refine wpList_append_any rfl (.tmp 101) (.tmp 103) 23 rfl w2.heap.size 37 k0 _ 2 32 Tryz.underlying23 KA0.out KB0.out KC0.out KD0.out rfl (by omega) _ _ _ rfl HD1.out.o0 _ _ _ ((gsOf [pv]).flatMap gpC) rfl (fun e => by have h := B.own_cap HO1.out.o0; have := h.2 e; omega) HO1.out.o0.1 (Row.of_own HO1.out.o0) (one_gps _) (by unfold maxLen; omega) (by omega) (by omega) ?_)
            intro v' wB0 hown' hgrow
            obtain ⟨pa0, pc0, rfl⟩ := B.own_slice hown'
            have HD2 := Lib.hid (HD1.out.put0 hown' hgrow)
            have HO2 := Lib.hid (HO1.out.past (gb := w2.heap.size) (i := 0) (u := .slice pa0 (G0.length + (gsOf [pv]).length) pc0) HD1.out.o0 HL0.out hgrow hgb0 hs4 (by decide))
            have hf := HD1.out.mid0 hgrow
            have hy9 := (hgrow.block _ (B.blk_lt HO1.out.y) (fun e => B.own_far HD1.out.o0 HO1.out.y (by decide) e.symm)).trans HO1.out.y
            have f9 := B.frozen_blk (i := 0) hf
            clear hown' hgrow y0 y1 y2 y3 c0 c1 c2 c3 fz hly hlg hsA
            have c0 := B.cell_blk (i := 0) hf rfl
            have c1 := B.cell_blk (i := 1) hf rfl
            have c2 := B.cell_blk (i := 2) hf rfl
            have c3 := B.cell_blk (i := 3) hf rfl
            have y0 := B.cell_blk (i := 0) hy9 rfl
            have y1 := B.cell_blk (i := 1) hy9 rfl
            have y2 := B.cell_blk (i := 2) hy9 rfl
            have y3 := B.cell_blk (i := 3) hy9 rfl
            have fz := f9
            have hly := B.blk_lt hy9
            have hlg := B.blk_lt hf
            have hsA := HD2.out.l.size
            have hgy : w2.heap.size ≠ w4.heap.size := by omega
            have hyg : w4.heap.size ≠ w2.heap.size := by omega
            clear hf hy9 f9
            go_wp2_with (at_builtin; refine wpList_append_any rfl (.tmp 107) (.tmp 109) 24 rfl w2.heap.size 40 k1 _ 6 64 Tryz.underlying24 KA1.out KB1.out KC1.out KD1.out rfl (by omega) _ _ _ rfl HD2.out.o1 _ _ _ ((esOf [pv]).flatMap evC) rfl (fun e => by have h := B.own_cap HO2.out.o1; have := h.2 e; omega) HO2.out.o1.1 (Row.of_own HO2.out.o1) (one_evs _) (by unfold maxLen; omega) (by omega) (by omega) ?_)
            intro v' wB1 hown' hgrow
            obtain ⟨pa1, pc1, rfl⟩ := B.own_slice hown'
            have HD3 := Lib.hid (HD2.out.put1 hown' hgrow)
            have HO3 := Lib.hid (HO2.out.past (gb := w2.heap.size) (i := 1) (u := .slice pa1 (E0.length + (esOf [pv]).length) pc1) HD2.out.o1 HL1.out hgrow hgb0 hs4 (by decide))
            have hf := HD2.out.mid1 hgrow
            have hy9 := (hgrow.block _ (B.blk_lt HO2.out.y) (fun e => B.own_far HD2.out.o1 HO2.out.y (by decide) e.symm)).trans HO2.out.y
            have f9 := B.frozen_blk (i := 1) hf
            clear hown' hgrow y0 y1 y2 y3 c0 c1 c2 c3 fz hly hlg hsA
            have c0 := B.cell_blk (i := 0) hf rfl
            have c1 := B.cell_blk (i := 1) hf rfl
            have c2 := B.cell_blk (i := 2) hf rfl
            have c3 := B.cell_blk (i := 3) hf rfl
            have y0 := B.cell_blk (i := 0) hy9 rfl
            have y1 := B.cell_blk (i := 1) hy9 rfl
            have y2 := B.cell_blk (i := 2) hy9 rfl
            have y3 := B.cell_blk (i := 3) hy9 rfl
            have fz := f9
            have hly := B.blk_lt hy9
            have hlg := B.blk_lt hf
            have hsA := HD3.out.l.size
            have hgy : w2.heap.size ≠ w4.heap.size := by omega
            have hyg : w4.heap.size ≠ w2.heap.size := by omega
            clear hf hy9 f9
            go_wp2_with (at_builtin; refine wpList_append_any rfl (.tmp 113) (.tmp 115) 25 rfl w2.heap.size 42 k2 _ 4 48 Tryz.underlying25 KA2.out KB2.out KC2.out KD2.out rfl (by omega) _ _ _ rfl HD3.out.o2 _ _ _ ((rsOf [pv]).flatMap rlC) rfl (fun e => by have h := B.own_cap HO3.out.o2; have := h.2 e; omega) HO3.out.o2.1 (Row.of_own HO3.out.o2) (one_rls _) (by unfold maxLen; omega) (by omega) (by omega) ?_)
            intro v' wB2 hown' hgrow
            obtain ⟨pa2, pc2, rfl⟩ := B.own_slice hown'
            have HD4 := Lib.hid (HD3.out.put2 hown' hgrow)
            have HO4 := Lib.hid (HO3.out.past (gb := w2.heap.size) (i := 2) (u := .slice pa2 (R0.length + (rsOf [pv]).length) pc2) HD3.out.o2 HL2.out hgrow hgb0 hs4 (by decide))
            have hf := HD3.out.mid2 hgrow
            have hy9 := (hgrow.block _ (B.blk_lt HO3.out.y) (fun e => B.own_far HD3.out.o2 HO3.out.y (by decide) e.symm)).trans HO3.out.y
            have f9 := B.frozen_blk (i := 2) hf
            clear hown' hgrow y0 y1 y2 y3 c0 c1 c2 c3 fz hly hlg hsA
            have c0 := B.cell_blk (i := 0) hf rfl
            have c1 := B.cell_blk (i := 1) hf rfl
            have c2 := B.cell_blk (i := 2) hf rfl
            have c3 := B.cell_blk (i := 3) hf rfl
            have y0 := B.cell_blk (i := 0) hy9 rfl
            have y1 := B.cell_blk (i := 1) hy9 rfl
            have y2 := B.cell_blk (i := 2) hy9 rfl
            have y3 := B.cell_blk (i := 3) hy9 rfl
            have fz := f9
            have hly := B.blk_lt hy9
            have hlg := B.blk_lt hf
            have hsA := HD4.out.l.size
            have hgy : w2.heap.size ≠ w4.heap.size := by omega
            have hyg : w4.heap.size ≠ w2.heap.size := by omega
            clear hf hy9 f9
            go_wp2_with (at_builtin; refine wpList_append_any rfl (.tmp 119) (.tmp 121) 26 rfl w2.heap.size 74 k3 _ 3 56 Tryz.underlying26 KA3.out KB3.out KC3.out KD3.out rfl (by omega) _ _ _ rfl HD4.out.o3 _ _ _ (N.flatMap usC) rfl (fun e => by have h := B.own_cap HO4.out.o3; have := h.2 e; omega) HO4.out.o3.1 (Row.of_own HO4.out.o3) (one_uss _) (by unfold maxLen; omega) (by omega) (by omega) ?_)
            intro v' wB3 hown' hgrow
            obtain ⟨pa3, pc3, rfl⟩ := B.own_slice hown'
            have HD5 := Lib.hid (HD4.out.put3 hown' hgrow (fun u hu => B.own_base (HO4.out.ro u hu) hso))
            have HO5 := Lib.hid (HO4.out.past (gb := w2.heap.size) (i := 3) (u := .slice pa3 (U.length + N.length) pc3) HD4.out.o3 HL3.out hgrow hgb0 hs4 (by decide))
            have vk := ((HD4.out.l.grown hgrow HD4.out.l.size (fun q hq => (HD4.out.o3.lt q hq).1)).cell (p := ⟨vb, vo + k, none⟩) HVB2.out).trans HVK.out
            have hf := HD4.out.mid3 hgrow
            have hy9 := (hgrow.block _ (B.blk_lt HO4.out.y) (fun e => B.own_far HD4.out.o3 HO4.out.y (by decide) e.symm)).trans HO4.out.y
            have f9 := B.frozen_blk (i := 3) hf
            clear hown' hgrow y0 y1 y2 y3 c0 c1 c2 c3 fz hly hlg hsA
            have c0 := B.cell_blk (i := 0) hf rfl
            have c1 := B.cell_blk (i := 1) hf rfl
            have c2 := B.cell_blk (i := 2) hf rfl
            have c3 := B.cell_blk (i := 3) hf rfl
            have y0 := B.cell_blk (i := 0) hy9 rfl
            have y1 := B.cell_blk (i := 1) hy9 rfl
            have y2 := B.cell_blk (i := 2) hy9 rfl
            have y3 := B.cell_blk (i := 3) hy9 rfl
            have fz := f9
            have hly := B.blk_lt hy9
            have hlg := B.blk_lt hf
            have hsA := HD5.out.l.size
            have hgy : w2.heap.size ≠ w4.heap.size := by omega
            have hyg : w4.heap.size ≠ w2.heap.size := by omega
            clear hf hy9 f9
            have h5 := HD5.out
            rw [← HG0.out, ← HE0.out, ← HR0.out, ← HBL.out] at h5
            have HF := Lib.hid (DR.snoc h5 HPV.out HPP.out HLX.out HU0.out HN0.out)
            clear h5
            have hk0' : (0 : Int) ≤ (k : Int) := Int.natCast_nonneg _
            have hkl' : (k : Int) < (n : Int) := by omega
            have hvl := HD5.out.l.size
            go_wp2_with fail
            go_roundw
            case rel => exact ⟨k + 1, hkl, by rw [HS1.out]; go_num, by go_num, HG1, by rw [HTK.out]; exact HF⟩
            case measure => simp [intOf]; omega
    · obtain rfl : k = n := by omega
      have htk : ls.take k = ls := by rw [← HLN.out, List.take_length]
      have HG1 : Hid (ls.all (fun l => !(stS l).2) = true) := Lib.hid (by have := HG.out; rw [htk] at this; exact this)
      have hW := HW.out
      rw [htk] at hW
      obtain ⟨v0, v1, v2, v3, U, sl, hw, hU⟩ := hW
      have HE3 : Hid (A = finL ls toks (checkL (grOf (ls.map P3.stV)))) := Lib.hid (by
        rw [HE2.out]
        unfold goodL
        rw [(bad_none ls 0).2 HG1.out])
      obtain ⟨a0, c0, rfl⟩ := B.own_slice hw.o0
      obtain ⟨a1, c1, rfl⟩ := B.own_slice hw.o1
      obtain ⟨a2, c2, rfl⟩ := B.own_slice hw.o2
      obtain ⟨a3, c3, rfl⟩ := B.own_slice hw.o3
      have HSZ : Hid (SzG ⟨gsOf (ls.map P3.stV), esOf (ls.map P3.stV), rsOf (ls.map P3.stV), U, a0, c0, a1, c1, a2, c2, a3, c3⟩) := Lib.hid (sz_parts s.data.toList.length HSL.out ls (by rw [HLN.out]; exact hvn) (fun L hL => by obtain ⟨sg, rfl⟩ := hls0.out L hL; exact gb_seg HGT.out hlt sg) U a0 a1 a2 a3 c0 c1 c2 c3 hU)
      have hck : checkL ⟨gsOf (ls.map P3.stV), esOf (ls.map P3.stV), rsOf (ls.map P3.stV), U, a0, c0, a1, c1, a2, c2, a3, c3⟩ = checkL (grOf (ls.map P3.stV)) := (check_same (g := ⟨gsOf (ls.map P3.stV), esOf (ls.map P3.stV), rsOf (ls.map P3.stV), U, a0, c0, a1, c1, a2, c2, a3, c3⟩) (g' := grOf (ls.map P3.stV)) rfl rfl rfl hU.symm).symm
      have CC := rcheck_any wo ⟨gsOf (ls.map P3.stV), esOf (ls.map P3.stV), rsOf (ls.map P3.stV), U, a0, c0, a1, c1, a2, c2, a3, c3⟩ ⟨Row.of_own hw.o0, Row.of_own hw.o1, Row.of_own hw.o2, Row.of_own hw.o3, fun u hu => Row.of_own (hw.ro u hu)⟩ HSZ.out
      rw [hck] at CC
      have HPL := Lib.hid (check_place (grOf (ls.map P3.stV)))
      have HPB := Lib.hid (place_beg ls toks (checkL (grOf (ls.map P3.stV))) HPL.out)
      have HWH := Lib.hid hw
      have HU := Lib.hid hU
      obtain ⟨b0, b1, b2, b3⟩ := hw.gc
      have hlw := hw.lt
      clear hck hw hU HPL HSZ HE2 HG HG1 HW HK HV HLN HT htk
      generalize hcc : checkL (grOf (ls.map P3.stV)) = cc at *
      clear hcc
      obtain ⟨p, i, ec⟩ := cc
      simp only at CC HPB
      have est : Go.Proofs.YtjgcjnkeeiaafaaGreatDoor.stV (p, i, ec) = .tuple #[.int .i64 (p : Int), .int .i64 (i : Int), .int .i64 (ec : Int)] := rfl
      rw [est] at CC
      clear est
      have HC := Lib.hid CC
      have hlo := HWH.out.l
      have hso := hlo.size
      clear CC
      go_wp2_with fail
      refine HC.out.mono ?_
      rintro e w6 ⟨rfl, hb6⟩
      have hw6 := HWH.out.call hb6
      have HW6 := Lib.hid hw6
      have HB6 := Lib.hid (HB2.out.trans (hw6.l.mono HB2.out.size))
      have HX6 := Lib.hid ((hw6.l.block _ hlx2).trans HX2.out)
      obtain ⟨d0, d1, d2, d3⟩ := hw6.gc
      have hlw6 := hw6.lt
      have hlx6 := B.blk_lt HX6.out
      have y0 := B.cell_blk (i := 0) HX6.out rfl
      have y1 := B.cell_blk (i := 1) HX6.out rfl
      have y2 := B.cell_blk (i := 2) HX6.out rfl
      have y3 := B.cell_blk (i := 3) HX6.out rfl
      have f0 := B.frozen_blk (i := 0) HX6.out
      have f1 := B.frozen_blk (i := 1) HX6.out
      have f2 := B.frozen_blk (i := 2) HX6.out
      have f3 := B.frozen_blk (i := 3) HX6.out
      have HLW := Lib.hid (show w.heap.size ≤ w2.heap.size from HB2.out.size)
      clear hb6 HC b0 b1 b2 b3 hw6 hlw hlo HX2 HWH HB2
      by_cases he : ec = 0
      · subst he
        have HEF : Hid (A = (ls.map P3.stV, 0, 0)) := Lib.hid (by rw [HE3.out]; unfold finL; rw [if_pos rfl])
        clear HPB HE3
        go_wp2_with fail
        obtain ⟨w7, hw7⟩ : ∃ w7, w7 = set4 w6 w.heap.size (.slice a0 (gsOf (ls.map P3.stV)).length c0) (.slice a1 (esOf (ls.map P3.stV)).length c1) (.slice a2 (rsOf (ls.map P3.stV)).length c2) (.slice a3 U.length c3) := ⟨_, rfl⟩
        have e7 := blk4 HX6.out (.slice a0 (gsOf (ls.map P3.stV)).length c0) (.slice a1 (esOf (ls.map P3.stV)).length c1) (.slice a2 (rsOf (ls.map P3.stV)).length c2) (.slice a3 U.length c3)
        have b7 := below_set4 HB6.out (Nat.le_refl _) (.slice a0 (gsOf (ls.map P3.stV)).length c0) (.slice a1 (esOf (ls.map P3.stV)).length c1) (.slice a2 (rsOf (ls.map P3.stV)).length c2) (.slice a3 U.length c3)
        have r0 := own_set4 HW6.out.o0 HX6.out (by decide) (.slice a0 (gsOf (ls.map P3.stV)).length c0) (.slice a1 (esOf (ls.map P3.stV)).length c1) (.slice a2 (rsOf (ls.map P3.stV)).length c2) (.slice a3 U.length c3)
        have r1 := own_set4 HW6.out.o1 HX6.out (by decide) (.slice a0 (gsOf (ls.map P3.stV)).length c0) (.slice a1 (esOf (ls.map P3.stV)).length c1) (.slice a2 (rsOf (ls.map P3.stV)).length c2) (.slice a3 U.length c3)
        have r2 := own_set4 HW6.out.o2 HX6.out (by decide) (.slice a0 (gsOf (ls.map P3.stV)).length c0) (.slice a1 (esOf (ls.map P3.stV)).length c1) (.slice a2 (rsOf (ls.map P3.stV)).length c2) (.slice a3 U.length c3)
        have r3 := own_set4 HW6.out.o3 HX6.out (by decide) (.slice a0 (gsOf (ls.map P3.stV)).length c0) (.slice a1 (esOf (ls.map P3.stV)).length c1) (.slice a2 (rsOf (ls.map P3.stV)).length c2) (.slice a3 U.length c3)
        have r4 := fun u hu => own_set4 (HW6.out.ro u hu) HX6.out (by decide) (.slice a0 (gsOf (ls.map P3.stV)).length c0) (.slice a1 (esOf (ls.map P3.stV)).length c1) (.slice a2 (rsOf (ls.map P3.stV)).length c2) (.slice a3 U.length c3)
        rw [← hw7] at e7 b7 r0 r1 r2 r3 r4
        unfold set4 at hw7
        rw [← hw7]
        have go8 : GrO w.heap.size (ls.map P3.stV) (.slice a0 (gsOf (ls.map P3.stV)).length c0) (.slice a1 (esOf (ls.map P3.stV)).length c1) (.slice a2 (rsOf (ls.map P3.stV)).length c2) (.slice a3 U.length c3) w7 :=
          ⟨U, HU.out, B.own_base r0 HLW.out, B.own_base r1 HLW.out, B.own_base r2 HLW.out, B.own_base r3 HLW.out, fun u hu => B.own_base (r4 u hu) HLW.out⟩
        have x0 := B.cell_blk (i := 0) e7 rfl
        have x1 := B.cell_blk (i := 1) e7 rfl
        have x2 := B.cell_blk (i := 2) e7 rfl
        have x3 := B.cell_blk (i := 3) e7 rfl
        exact bodyPost_ret (v := .tuple #[.agg #[.slice a0 (gsOf (ls.map P3.stV)).length c0, .slice a1 (esOf (ls.map P3.stV)).length c1, .slice a2 (rsOf (ls.map P3.stV)).length c2, .slice a3 U.length c3], .int .i64 0, .int .i64 0]) (by simp [results, Tryz.results6, go_sem, x0, x1, x2, x3]) rfl (by rw [HEF.out]; exact ⟨b7, by rw [if_pos rfl]; exact ⟨_, _, _, _, rfl, go8⟩⟩)
      · have hq : ((ec : Int) == 0) = false := by rw [beq_eq_false_iff_ne]; omega
        by_cases hp0 : p = 0
        · subst hp0
          have HEF : Hid (A = ([], 0, ec)) := Lib.hid (by rw [HE3.out]; unfold finL; rw [if_neg he, if_pos rfl])
          have HE := Lib.hid he
          clear HPB HE3 he
          go_wp2_with fail
          obtain ⟨w9, hw9⟩ : ∃ w9, w9 = set4 w6 w.heap.size nilV nilV nilV nilV := ⟨_, rfl⟩
          have e9 := blk4 HX6.out nilV nilV nilV nilV
          have b9 := below_set4 HB6.out (Nat.le_refl _) nilV nilV nilV nilV
          rw [← hw9] at e9 b9
          unfold set4 at hw9
          rw [← hw9]
          have x0 := B.cell_blk (i := 0) e9 rfl
          have x1 := B.cell_blk (i := 1) e9 rfl
          have x2 := B.cell_blk (i := 2) e9 rfl
          have x3 := B.cell_blk (i := 3) e9 rfl
          exact bodyPost_ret (v := .tuple #[grZ, .int .i64 0, .int .i64 (ec : Int)]) (by simp [results, Tryz.results6, go_sem, x0, x1, x2, x3]) rfl (psA_err (k := 0) HEF.out HE.out b9)
        · have hp1 : ((p : Int) == 0) = false := by rw [beq_eq_false_iff_ne]; omega
          obtain ⟨hp5, hil⟩ := HPB.out he hp0
          obtain ⟨k0, hk0⟩ : ∃ k0, k0 = ((begins ls toks p)[i]?).getD 0 := ⟨_, rfl⟩
          have HEF : Hid (A = ([], k0, ec)) := Lib.hid (by rw [HE3.out, hk0]; unfold finL; rw [if_neg he, if_neg hp0])
          have HE := Lib.hid he
          have cb := HW6.out.bc hp5
          have hst := HW6.out.st p hp5
          have hkv : (blOf ls toks p)[i]! = (k0 : Int) := by rw [hk0, bl_get ls toks p i hil]
          obtain ⟨ga, gc, hsl⟩ := B.own_slice hst
          rw [hsl] at cb hst
          have hblk := fun g hg => (hst.lt g hg).1
          obtain ⟨rb, ro, rfl, hrb, hrc⟩ := Row.of_own hst (by intro e; have := congrArg List.length e; rw [List.length_map, List.length_nil] at this; omega)
          have ci : w6.cell? ⟨rb, ro + i, none⟩ = some (.int .i64 (k0 : Int)) := hrc i _ (by rw [List.getElem?_map, List.getElem?_eq_getElem hil, ← hkv, getElem!_pos _ i hil]; rfl)
          have hge : w2.heap.size ≤ rb := hblk rb rfl
          generalize (blOf ls toks p).length = len at *
          have hpi0 : (0 : Int) ≤ (p : Int) := Int.natCast_nonneg _
          have hpi5 : (p : Int) < 5 := by omega
          have hii0 : (0 : Int) ≤ (i : Int) := Int.natCast_nonneg _
          have hiil : (i : Int) < (len : Int) := by omega
          have hne1 : rb ≠ w.heap.size := by omega
          have hne2 : w.heap.size ≠ rb := by omega
          have hbw := HW6.out.ltb
          have hne3 : w2.heap.size + 1 + 1 + 1 + 1 + 1 + 1 ≠ w.heap.size := by omega
          have hne4 : w.heap.size ≠ w2.heap.size + 1 + 1 + 1 + 1 + 1 + 1 := by omega
          clear HPB HE3 he hk0 hst hkv hsl hblk hrc HW6 d0 d1 d2 d3
          go_wp2_with fail
          go_region
          go_wp2_with fail
          obtain ⟨w9, hw9⟩ : ∃ w9, w9 = set4 w6 w.heap.size nilV nilV nilV nilV := ⟨_, rfl⟩
          have e9 := blk4 HX6.out nilV nilV nilV nilV
          have b9 := below_set4 HB6.out (Nat.le_refl _) nilV nilV nilV nilV
          rw [← hw9] at e9 b9
          unfold set4 at hw9
          rw [← hw9]
          have e10 : w9.drew.heap[w.heap.size]? = some (.cells #[nilV, nilV, nilV, nilV] 28 (0, 0)) := e9
          have x0 := B.cell_blk (i := 0) e10 rfl
          have x1 := B.cell_blk (i := 1) e10 rfl
          have x2 := B.cell_blk (i := 2) e10 rfl
          have x3 := B.cell_blk (i := 3) e10 rfl
          exact bodyPost_ret (v := .tuple #[grZ, .int .i64 (k0 : Int), .int .i64 (ec : Int)]) (by simp [results, Tryz.results6, go_sem, x0, x1, x2, x3]) rfl (psA_err HEF.out HE.out (B.below_draws b9 1))
end Go.Proofs.YtjgcjnkeeiaafaaGreatDoor.P3.D
