/-
  Contracts of slices.Clone at tokens, and of lex.Statements. Plain facts for Parse: where statements begin, the first wrong one, the beginnings of each part.
-/
import Derived.Test.YtigbceankmfaeaaGreatDoorTbci
import Derived.BigQuiet
import Derived.Deep.QuietTactic
import Derived.Test.YtigbceankmfaeaaGreatDoorTbch
import Derived.Test.YtigbceankmfaeaaGreatDoorTbcg
namespace Go.Proofs.YtigbceankmfaeaaGreatDoor.Lx
open Go.RowKit
theorem tokC_one (t : Tok) : ∀ u ∈ tokC t, u.oneCell' = true := by intro u hu; simp [tokC] at hu; rcases hu with rfl | rfl | rfl | rfl <;> rfl
theorem rowC_one (l : List Tok) : ∀ u ∈ rowC l, u.oneCell' = true := by
  intro u hu
  simp only [rowC, List.mem_flatMap] at hu
  obtain ⟨t, _, h⟩ := hu
  exact tokC_one t u h
set_option maxRecDepth 100000 in
set_option maxHeartbeats 1000000 in
theorem clone_any (A : Option Addr) (c : Nat) (l : List Tok) (w : World) (ht : Toks w A l.length l) (hl : l.length ≤ 1000000) :
    Calls Tryz.prog 55 #[.slice A l.length c] w fun e w' => ∃ v, e = .returned v ∧ w'.ownsRow w.heap.size 73 4 v l.length (rowC l) ∧ Below w.heap.size w w' := by
  obtain ⟨i0, hi, hz0, hz1, hz2⟩ := info_parts infoTok
  have HI := Lib.hid hi
  have HZ0 := Lib.hid hz0
  have HZ1 := Lib.hid hz1
  have HZ2 := Lib.hid hz2
  have q : ∀ (w : World) (a : Option Addr) (n c n' c' : Nat), (binOp .eql 37 (.slice a n c) (.slice none n' c')).run Tryz.prog w = .ok (.bool a.isNone) w := fun w a n c n' c' => Lib.run_eql_slice_nil w _ _ a n c n' c' Tryz.underlying37
  clear hi hz0 hz1 hz2
  cases A with
  | none =>
    have h0 : l = [] := by
      cases l with
      | nil => rfl
      | cons t r => obtain ⟨b, off, e, _⟩ := ht.2 (by simp); cases e
    subst h0
    go_enter Tryz.func55, Tryz.ntmps55
    go_wp2
    go_ret
    exact ⟨_, rfl, World.ownsRow_nil _ _ _ _, Below.refl _ _⟩
  | some ad =>
    have hc : Hid (∀ j u, (rowC l)[j]? = some u → (w.alloc (.cells #[] 73)).cell? (ad.add j) = some u) := by
      intro j u hu
      have hj : j < (rowC l).length := by
        rcases Nat.lt_or_ge j (rowC l).length with h | h
        · exact h
        · rw [List.getElem?_eq_none h] at hu; cases hu
      obtain ⟨b, off, e, hb, hcell⟩ := ht.2 (by rw [rowC_length] at hj; omega)
      injection e with e
      subst e
      rw [Addr.add_lit]
      exact (World.cell?_alloc_lt _ _ ⟨b, off + j, none⟩ hb).trans (hcell j u hu)
    go_enter Tryz.func55, Tryz.ntmps55
    go_wp2_with (at_builtin; refine wpList_append_own _ rfl (.tmp 5) (.tmp 6) 37 rfl w.heap.size 73 i0 _ 4 40 Tryz.underlying37 HI.out HZ0.out HZ1.out HZ2.out rfl (by omega) _ _ _ rfl (World.ownsRow_made w #[] 0 (Nat.le_refl _) (Nat.zero_le _) (by simp)) ad l.length c (rowC l) rfl (rowC_length l) ?c1 (rowC_one l) ?c3 ?c4 ?c5 ?_)
    case c1 => exact hc.out
    case c3 => unfold maxLen; omega
    case c4 => omega
    case c5 => simp
    intro v' w1 hown hgrow _
    go_wp2
    go_ret
    exact ⟨v', rfl, by simpa using hown, ((Below.refl _ w).alloc (Nat.le_refl _) _).grown hgrow (by simp) (by intro k hk; simp [Value.ownBlock] at hk; omega)⟩
theorem infoToks : (Tryz.prog.info? 37).map (fun i => (i.zero, i.size, i.bytes)) = some (some (.slice none 0 0), 1, 24) := by kernel_rfl
/-- A part's slice value: where it lies in the whole's. -/
def SegV (oa : Option Addr) (s : Nat × Nat) (v : Value) : Prop :=
  ∃ ad : Addr, v = .slice (some ad) (s.2 - s.1) (s.2 - s.1) ∧ (s.1 < s.2 → ∃ b off, oa = some ⟨b, off, none⟩ ∧ ad = ⟨b, off + s.1 * 4, none⟩)
def SegVs (oa : Option Addr) (ss : List (Nat × Nat)) (vs : List Value) : Prop := vs.length = ss.length ∧ ∀ (j : Nat) (s : Nat × Nat), ss[j]? = some s → ∃ v, vs[j]? = some v ∧ SegV oa s v
theorem SegVs.snoc {oa : Option Addr} {ss : List (Nat × Nat)} {vs : List Value} {s : Nat × Nat} {v : Value} (h : SegVs oa ss vs) (hv : SegV oa s v) : SegVs oa (ss ++ [s]) (vs ++ [v]) := by
  refine ⟨by simp [h.1], fun j x hj => ?_⟩
  rcases Nat.lt_or_ge j ss.length with hlt | hge
  · rw [List.getElem?_append_left hlt] at hj
    obtain ⟨u, hu, hs⟩ := h.2 j x hj
    exact ⟨u, by rw [List.getElem?_append_left (by rw [h.1]; exact hlt)]; exact hu, hs⟩
  · rw [List.getElem?_append_right hge] at hj
    have hj0 : j - ss.length = 0 := by
      rcases Nat.eq_zero_or_pos (j - ss.length) with h0 | h0
      · exact h0
      · rw [List.getElem?_eq_none (by simp; omega)] at hj; cases hj
    rw [hj0] at hj
    simp at hj
    subst hj
    exact ⟨v, by rw [List.getElem?_append_right (by rw [h.1]; exact hge), h.1, hj0]; rfl, hv⟩
def StRel (l : List Tok) (oa : Option Addr) (oc : Nat) (w : World) (v s i : Value) (wr : World) : Prop :=
  ∃ (k st : Nat) (ss : List (Nat × Nat)) (vs : List Value), k ≤ l.length ∧ st ≤ k ∧ i = .int .i64 k ∧ s = .int .i64 st ∧ vs.length ≤ k ∧ wr.ownsRow w.heap.size 37 1 v vs.length vs ∧ SegVs oa ss vs ∧
    wr.ownsRow w.heap.size 73 4 (.slice oa l.length oc) l.length (rowC l) ∧ Below w.heap.size w wr ∧ Hid ((ss ++ (segS (l.drop k) k st).1, (segS (l.drop k) k st).2) = segS l 0 0)
/-- What Statements hands back. -/
def StOf (l : List Tok) (w : World) (e : Ending) (w' : World) : Prop :=
  Below w.heap.size w w' ∧
  ((∃ t, l[(segS l 0 0).2]? = some t ∧ e = .returned (.tuple #[.slice none 0 0, .int .i64 t.loc, .int .i64 2])) ∨
   (l.length ≤ (segS l 0 0).2 ∧ ∃ v vs oa oc, e = .returned (.tuple #[v, .int .i64 0, .int .i64 0]) ∧ w'.ownsRow w.heap.size 37 1 v vs.length vs ∧ SegVs oa (segS l 0 0).1 vs ∧
     w'.ownsRow w.heap.size 73 4 (.slice oa l.length oc) l.length (rowC l)))
theorem own_cap {w : World} {B e z n c : Nat} {A : Option Addr} {xs : List Value} (h : w.ownsRow B e z (.slice A n c) n xs) : n ≤ c := by
  rcases h.2 with ⟨hv, h0⟩ | ⟨g, cap, cur, hv, _, _, hn, _⟩
  · omega
  · injection hv with _ _ h3; omega
/-- Rows of different element types share no block. -/
theorem own_ne {w : World} {B B' e e' z z' n n' : Nat} {v v' : Value} {xs xs' : List Value} (h : w.ownsRow B e z v n xs) (h' : w.ownsRow B' e' z' v' n' xs') (hne : e ≠ e') : v.ownBlock = none ∨ v.ownBlock ≠ v'.ownBlock := by
  rcases h.2 with ⟨rfl, _⟩ | ⟨g, cap, cur, rfl, _, hg, _⟩
  · exact .inl rfl
  · rcases h'.2 with ⟨rfl, _⟩ | ⟨g', cap', cur', rfl, _, hg', _⟩
    · right; simp [Value.ownBlock]
    · right
      intro hh
      simp only [Value.ownBlock, Option.some.injEq] at hh
      subst hh
      rw [hg] at hg'
      injection hg' with hg'
      injection hg' with _ hg'
      exact hne hg'
theorem below_draws {B : Nat} {a w : World} (h : Below B a w) (n : Nat) : Below B a (w.drewN n) := ⟨h.os, h.tape, h.output, h.size, h.block⟩
/-- Behind the append of a part. -/
theorem st_behind {w wr w2 : World} {o1 o2 : Obj} {n c m : Nat} {v : Value} {oa : Option Addr} {xs ys : List Value} (hb : Below w.heap.size w wr) (hv : wr.ownsRow w.heap.size 37 1 v n xs) (hown : wr.ownsRow w.heap.size 73 4 (.slice oa m c) m ys)
    (hg : ((wr.alloc o1).alloc o2).grownBy w2 v.ownBlock) : w2.ownsRow w.heap.size 73 4 (.slice oa m c) m ys ∧ Below w.heap.size w w2 := by
  have z1 := hb.size
  refine ⟨((hown.alloc o1).alloc o2).kept hg (own_ne hown hv (by decide)), ?_⟩
  exact ((hb.alloc (by omega) _).alloc (by simp; omega) _).grown hg (by simp; omega) fun k hk => (hv.lt k hk).1
set_option maxRecDepth 100000 in
set_option maxHeartbeats 2000000 in
theorem statements_any (A : Option Addr) (c : Nat) (l : List Tok) (w : World) (ht : Toks w A l.length l) (hl : l.length ≤ 1000000) :
    Calls Tryz.prog 27 #[.slice A l.length c] w (StOf l w) := by
  have C25 := Lib.hid (clone_any A c l w ht hl)
  obtain ⟨i0, hi, hz0, hz1, hz2⟩ := info_parts infoToks
  have HI := Lib.hid hi
  have HZ0 := Lib.hid hz0
  have HZ1 := Lib.hid hz1
  have HZ2 := Lib.hid hz2
  clear ht hi hz0 hz1 hz2
  go_enter Tryz.func27, Tryz.ntmps27
  go_wp2_with (go_at_call 55; refine C25.out.mono ?_; rintro e w0 ⟨own, rfl, hown0, hb0⟩; obtain ⟨oa, oc, rfl⟩ := own_slice hown0)
  go_loopw [6, 7, 8, 9, 14] (fun v s _ _ i wr => StRel l oa oc w v s i wr) (fun _ _ _ _ i _ => l.length - (intOf i).toNat)
  case atStart => exact ⟨0, 0, [], [], Nat.zero_le _, Nat.le_refl _, rfl, rfl, Nat.zero_le _, World.ownsRow_nil _ _ _ _, ⟨rfl, by simp⟩, hown0, hb0, rfl⟩
  case round =>
    obtain ⟨k, st, ss, vs, hk, hst, rfl, rfl, hvk, hv, hsv, hown, hbel, HR⟩ := hrel
    have hoc := own_cap hown
    have hbz := hbel.size
    clear hown0 hb0
    by_cases hlt : k < l.length
    · obtain ⟨b, off, t, x, rfl, hbw, htk, hx, c0, c1, c2, c3⟩ := (Toks.of_own hown).at_ hlt
      have HK := Lib.hid htk
      clear hx htk
      obtain ⟨va, vc, rfl⟩ := own_slice hv
      by_cases hk3 : t.kind = 3
      · have hk3' : ((t.kind : Int) != 3) = false := by rw [bne_eq_false_iff_eq]; omega
        have HR' : Hid (((ss ++ [(st, k)]) ++ (segS (l.drop (k + 1)) (k + 1) (k + 1)).1, (segS (l.drop (k + 1)) (k + 1) (k + 1)).2) = segS l 0 0) := Lib.hid (by rw [← HR.out, seg_sign HK.out hk3]; simp)
        have HV := Lib.hid hv
        have HO := Lib.hid hown
        have HS := Lib.hid hsv
        clear hk3 HR hv hown hsv
        by_cases hks : k = st
        · subst hks
          go_wp2_with (first
            | (at_builtin; refine wpList_append_own _ rfl (.tmp 22) (.tmp 28) 65 rfl w.heap.size 37 i0 _ 1 24 Tryz.underlying65 HI.out HZ0.out HZ1.out HZ2.out rfl (by omega) _ _ _ rfl ((HV.out.alloc _).alloc _) ⟨wr.heap.size + 1, 0, none⟩ 1 1 [.slice (some ⟨b, off, none⟩) 0 0] rfl rfl ?c1 ?c2 ?c3 ?c4 ?c5 ?_))
          case c1 =>
            intro j u hj
            match j, hj with
            | 0, hj => simp at hj; subst hj; simp [Addr.add]
          case c2 => intro u hu; simp at hu; subst hu; rfl
          case c3 => unfold maxLen; omega
          case c4 => omega
          case c5 => simp; omega
          intro v' w2 hown' hgrow _
          obtain ⟨ho2, hb2⟩ := st_behind hbel HV.out HO.out hgrow
          have HS' := Lib.hid (HS.out.snoc (s := (k, k)) (v := .slice (some ⟨b, off, none⟩) 0 0) ⟨⟨b, off, none⟩, by simp, fun h => by simp at h⟩)
          have HV' : Hid (w2.ownsRow w.heap.size 37 1 v' (vs ++ [Value.slice (some ⟨b, off, none⟩) 0 0]).length (vs ++ [Value.slice (some ⟨b, off, none⟩) 0 0])) := Lib.hid (by rw [List.length_append]; exact hown')
          clear hown' hgrow
          go_wp2
          go_roundw
          case rel => exact ⟨k + 1, k + 1, _, _, hlt, Nat.le_refl _, by go_num, by go_num, by simp; omega, HV'.out, HS'.out, ho2, hb2, HR'⟩
          case measure => simp [intOf]; omega
        · have hks' : ¬ k = st := hks
          go_wp2_with (first
            | (at_builtin; refine wpList_append_own _ rfl (.tmp 22) (.tmp 28) 65 rfl w.heap.size 37 i0 _ 1 24 Tryz.underlying65 HI.out HZ0.out HZ1.out HZ2.out rfl (by omega) _ _ _ rfl ((HV.out.alloc _).alloc _) ⟨wr.heap.size + 1, 0, none⟩ 1 1 [.slice (some ⟨b, off + st * 4, none⟩) (k - st) (k - st)] rfl rfl ?d1 ?d2 ?d3 ?d4 ?d5 ?_))
          case d1 =>
            intro j u hj
            match j, hj with
            | 0, hj => simp at hj; subst hj; simp [Addr.add]
          case d2 => intro u hu; simp at hu; subst hu; rfl
          case d3 => unfold maxLen; omega
          case d4 => omega
          case d5 => simp; omega
          intro v' w2 hown' hgrow _
          obtain ⟨ho2, hb2⟩ := st_behind hbel HV.out HO.out hgrow
          have HS' := Lib.hid (HS.out.snoc (s := (st, k)) (v := .slice (some ⟨b, off + st * 4, none⟩) (k - st) (k - st)) ⟨_, rfl, fun _ => ⟨b, off, rfl, rfl⟩⟩)
          have HV' : Hid (w2.ownsRow w.heap.size 37 1 v' (vs ++ [Value.slice (some ⟨b, off + st * 4, none⟩) (k - st) (k - st)]).length (vs ++ [Value.slice (some ⟨b, off + st * 4, none⟩) (k - st) (k - st)])) := Lib.hid (by rw [List.length_append]; exact hown')
          clear hown' hgrow
          go_wp2
          go_roundw
          case rel => exact ⟨k + 1, k + 1, _, _, hlt, Nat.le_refl _, by go_num, by go_num, by simp; omega, HV'.out, HS'.out, ho2, hb2, HR'⟩
          case measure => simp [intOf]; omega
      · have hk3' : ((t.kind : Int) != 3) = true := by rw [bne_iff_ne]; omega
        have HR' : Hid ((ss ++ (segS (l.drop (k + 1)) (k + 1) st).1, (segS (l.drop (k + 1)) (k + 1) st).2) = segS l 0 0) := Lib.hid (by rw [← HR.out, seg_other HK.out hk3])
        have HV := Lib.hid hv
        have HO := Lib.hid hown
        have HS := Lib.hid hsv
        clear hk3 HR hv hown hsv
        go_wp2_with fail
        go_roundw
        case rel => exact ⟨k + 1, st, ss, vs, hlt, by omega, by go_num, rfl, by omega, HV.out.alloc _, HS.out, HO.out.alloc _, hbel.alloc hbz _, HR'⟩
        case measure => simp [intOf]; omega
    · obtain rfl : k = l.length := by omega
      have HF : Hid ((ss, st) = segS l 0 0) := Lib.hid (by rw [← HR.out, seg_end (Nat.le_refl _)]; simp)
      clear HR
      by_cases hs2 : st < l.length
      · obtain ⟨b, off, t, x, rfl, hbw, htk, hx, c0, c1, c2, c3⟩ := (Toks.of_own hown).at_ hs2
        have HK : Hid (l[(segS l 0 0).2]? = some t) := Lib.hid (by rw [← HF.out]; exact htk)
        clear hx htk hown hv hsv
        go_wp2_with fail
        go_quiet (fail)
        go_wp2
        go_ret3
        exact ⟨below_draws hbel nq, .inl ⟨t, HK.out, rfl⟩⟩
      · have HK : Hid (l.length ≤ (segS l 0 0).2) := Lib.hid (by rw [← HF.out]; simp; omega)
        have HS : Hid (SegVs oa (segS l 0 0).1 vs) := Lib.hid (by rw [← HF.out]; exact hsv)
        have HV := Lib.hid hv
        have HO := Lib.hid hown
        clear hv hown hsv
        go_wp2_with fail
        go_ret3
        exact ⟨hbel, .inr ⟨HK.out, _, vs, oa, oc, rfl, HV.out, HS.out, HO.out⟩⟩
end Go.Proofs.YtigbceankmfaeaaGreatDoor.Lx

namespace Go.Proofs.YtigbceankmfaeaaGreatDoor.P3.C
open Go.RowKit Go.Shelf Go.Proofs.YtigbceankmfaeaaGreatDoor.B Go.Proofs.YtigbceankmfaeaaGreatDoor.Lx Go.Proofs.YtigbceankmfaeaaGreatDoor.P3
/-- Parts that follow each other, a sign between. -/
def Chn (n : Nat) : Nat → List (Nat × Nat) → Prop
  | _, [] => True
  | st, s :: r => s.1 = st ∧ st ≤ s.2 ∧ s.2 < n ∧ Chn n (s.2 + 1) r
theorem seg_chn : ∀ (l : List Tok) (k st : Nat), st ≤ k → Chn (k + l.length) st (segS l k st).1
  | [], _, _, _ => trivial
  | t :: r, k, st, h => by
    rw [segS]
    have e : k + (t :: r).length = k + 1 + r.length := by simp; omega
    rw [e]
    by_cases h3 : t.kind = 3
    · rw [if_pos h3]
      exact ⟨rfl, h, by omega, seg_chn r (k + 1) (k + 1) (Nat.le_refl _)⟩
    · rw [if_neg h3]
      exact seg_chn r (k + 1) st (by omega)
/-- How many tokens statements have, with their signs. -/
def szL : List (List B3) → Nat
  | [] => 0
  | l :: r => l.length + 1 + szL r
theorem sz_app (a b : List (List B3)) : szL (a ++ b) = szL a + szL b := by
  induction a with
  | nil => simp [szL]
  | cons x r ih => rw [List.cons_append, szL, szL, ih]; omega
def segT (l : List Tok) (s : Nat × Nat) : List Tok := (l.take s.2).drop s.1
theorem chn_at (l : List Tok) : ∀ (ss : List (Nat × Nat)) (st i : Nat) (s : Nat × Nat), Chn l.length st ss → ss[i]? = some s →
    s.1 = st + szL ((ss.map fun s => (segT l s).map bare).take i) ∧ s.1 ≤ s.2 ∧ s.2 < l.length ∧ (segT l s).length = s.2 - s.1
  | [], _, _, _, _, h => by cases h
  | x :: r, st, 0, s, h, hs => by
    simp only [List.getElem?_cons_zero, Option.some.injEq] at hs
    subst hs
    obtain ⟨h1, h2, h3, _⟩ := h
    refine ⟨by simp [szL, h1], by omega, h3, ?_⟩
    unfold segT
    rw [List.length_drop, List.length_take]; omega
  | x :: r, st, i + 1, s, h, hs => by
    rw [List.getElem?_cons_succ] at hs
    obtain ⟨h1, h2, h3, h4⟩ := h
    obtain ⟨a1, a2, a3, a4⟩ := chn_at l r (x.2 + 1) i s h4 hs
    refine ⟨?_, a2, a3, a4⟩
    rw [a1, List.map_cons, List.take_succ_cons, szL, List.length_map]
    have : (segT l x).length = x.2 - x.1 := by unfold segT; rw [List.length_drop, List.length_take]; omega
    rw [this]; omega
theorem bad_at : ∀ (ls : List (List B3)) (k i : Nat) (L : List B3), ls[i]? = some L → (ls.take i).all (fun l => !(stS l).2) = true → (stS L).2 = true → firstBad ls k = some (k + szL (ls.take i) + (stS L).1)
  | [], _, _, _, h, _, _ => by cases h
  | x :: r, k, 0, L, h, _, hb => by
    simp only [List.getElem?_cons_zero, Option.some.injEq] at h
    subst h
    rw [firstBad, if_pos hb]; simp [szL]
  | x :: r, k, i + 1, L, h, hg, hb => by
    rw [List.getElem?_cons_succ] at h
    rw [List.take_succ_cons, List.all_cons, Bool.and_eq_true] at hg
    have hx : ¬ (stS x).2 = true := by have := hg.1; simpa using this
    rw [firstBad, if_neg hx, bad_at r _ i L h hg.2 hb, List.take_succ_cons, szL]
    congr 1; omega
theorem beg_app : ∀ (a b : List (List B3)) (k : Nat), begL (a ++ b) k = begL a k ++ begL b (k + szL a)
  | [], b, k => by simp [begL, szL]
  | x :: r, b, k => by
    rw [List.cons_append, begL, begL, beg_app r b, szL, List.cons_append]
    rw [show k + x.length + 1 + szL r = k + (x.length + 1 + szL r) by omega]
/-- Where a part's statements begin. -/
def blOf (ls : List (List B3)) (toks : List Tok) (p : Nat) : List Int := (begins ls toks p).map Int.ofNat
theorem bl_snoc (ls : List (List B3)) (toks : List Tok) (L : List B3) (p : Nat) :
    blOf (ls ++ [L]) toks p = if p = partNo (stV L) then blOf ls toks p ++ [((locAt toks (szL ls) : Nat) : Int)] else blOf ls toks p := by
  unfold blOf begins
  rw [beg_app, Nat.zero_add, List.filter_append, List.map_append, List.map_append]
  have : begL [L] (szL ls) = [(partNo (stV L), szL ls)] := by simp [begL]
  rw [this]
  by_cases h : p = partNo (stV L)
  · rw [if_pos h, List.filter_cons_of_pos (by simp [h])]; simp
  · rw [if_neg h, List.filter_cons_of_neg (by simp [Ne.symm h])]; simp
theorem begins_len (toks : List Tok) (p : Nat) : ∀ (ls : List (List B3)) (k : Nat), (((begL ls k).filter (fun x => x.1 == p)).map fun x => locAt toks x.2).length = ((ls.map stV).filter (fun v => partNo v == p)).length
  | [], _ => rfl
  | x :: r, k => by
    have ih := begins_len toks p r (k + x.length + 1)
    rw [List.length_map] at ih ⊢
    rw [begL, List.map_cons]
    by_cases h : partNo (stV x) = p
    · rw [List.filter_cons_of_pos (by simp [h]), List.filter_cons_of_pos (by simp [h]), List.length_cons, List.length_cons, ih]
    · rw [List.filter_cons_of_neg (by simp [h]), List.filter_cons_of_neg (by simp [h]), ih]
theorem bl_len (ls : List (List B3)) (toks : List Tok) (p : Nat) : (blOf ls toks p).length = ((ls.map stV).filter (fun v => partNo v == p)).length := by
  unfold blOf begins; rw [List.length_map]; exact begins_len toks p ls 0
theorem gs_len : ∀ vs : List PartV, (gsOf vs).length = (vs.filter fun v => partNo v == 1).length
  | [] => rfl
  | v :: r => by
    have ih := gs_len r
    cases v <;> simp_all [gsOf, partNo]
theorem es_len : ∀ vs : List PartV, (esOf vs).length = (vs.filter fun v => partNo v == 2).length
  | [] => rfl
  | v :: r => by
    have ih := es_len r
    cases v <;> simp_all [esOf, partNo]
theorem rs_len : ∀ vs : List PartV, (rsOf vs).length = (vs.filter fun v => partNo v == 3).length
  | [] => rfl
  | v :: r => by
    have ih := rs_len r
    cases v <;> simp_all [rsOf, partNo]
theorem us_len : ∀ vs : List PartV, (usOf vs).length = (vs.filter fun v => partNo v == 4).length
  | [] => rfl
  | v :: r => by
    have ih := us_len r
    cases v <;> simp_all [usOf, partNo]
theorem of_app (a b : List PartV) : gsOf (a ++ b) = gsOf a ++ gsOf b ∧ esOf (a ++ b) = esOf a ++ esOf b ∧ rsOf (a ++ b) = rsOf a ++ rsOf b ∧ usOf (a ++ b) = usOf a ++ usOf b := by
  simp [gsOf, esOf, rsOf, usOf, List.filterMap_append]
/-- The place that Check tells has its beginning. -/
theorem place_beg (ls : List (List B3)) (toks : List Tok) (c : St) (h : PlOk c (gsOf (ls.map stV)).length (esOf (ls.map stV)).length (rsOf (ls.map stV)).length (usOf (ls.map stV)).length) (h0 : c.2.2 ≠ 0) (hp : c.1 ≠ 0) :
    c.1 < 5 ∧ c.2.1 < (blOf ls toks c.1).length := by
  rw [bl_len]
  rw [gs_len, es_len, rs_len, us_len] at h
  rcases h with h | h | ⟨h1, h2⟩ | ⟨h1, h2⟩ | ⟨h1, h2⟩ | ⟨h1, h2⟩
  · exact absurd h h0
  · exact absurd h hp
  all_goals (rw [h1]; exact ⟨by decide, h2⟩)
theorem bl_get (ls : List (List B3)) (toks : List Tok) (p i : Nat) (h : i < (blOf ls toks p).length) : (blOf ls toks p)[i]! = ((((begins ls toks p)[i]?).getD 0 : Nat) : Int) := by
  unfold blOf at h ⊢
  rw [List.length_map] at h
  rw [getElem!_pos _ i (by rw [List.length_map]; exact h), List.getElem_map, List.getElem?_eq_getElem h]; rfl
end Go.Proofs.YtigbceankmfaeaaGreatDoor.P3.C
