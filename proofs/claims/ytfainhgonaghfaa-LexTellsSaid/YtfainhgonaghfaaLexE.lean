/-
  Contracts of slices.Clone at tokens, and of lex.Statements.
-/
import Derived.Test.YtfainhgonaghfaaLexD
import Derived.BigQuiet
import Derived.Deep.QuietTactic
namespace Go.Proofs.Ytfainhgonaghfaa
open Go.RowKit

theorem tokC_one (t : Tok) : ∀ u ∈ tokC t, u.oneCell' = true := by intro u hu; simp [tokC] at hu; rcases hu with rfl | rfl | rfl | rfl <;> rfl
theorem rowC_one (l : List Tok) : ∀ u ∈ rowC l, u.oneCell' = true := by
  intro u hu
  simp only [rowC, List.mem_flatMap] at hu
  obtain ⟨t, _, h⟩ := hu
  exact tokC_one t u h

set_option maxHeartbeats 1000000 in
theorem clone_any (A : Option Addr) (c : Nat) (l : List Tok) (w : World) (ht : Toks w A l.length l) (hl : l.length ≤ 1000000) :
    Calls Try.prog 25 #[.slice A l.length c] w fun e w' => ∃ v, e = .returned v ∧ w'.ownsRow w.heap.size 35 4 v l.length (rowC l) ∧ Below w.heap.size w w' := by
  obtain ⟨i0, hi, hz0, hz1, hz2⟩ := info_parts infoTok
  have HI := Lib.hid hi
  have HZ0 := Lib.hid hz0
  have HZ1 := Lib.hid hz1
  have HZ2 := Lib.hid hz2
  have q : ∀ (w : World) (a : Option Addr) (n c n' c' : Nat), (binOp .eql 23 (.slice a n c) (.slice none n' c')).run Try.prog w = .ok (.bool a.isNone) w := fun w a n c n' c' => Lib.run_eql_slice_nil w _ _ a n c n' c' Try.underlying23
  clear hi hz0 hz1 hz2
  cases A with
  | none =>
    have h0 : l = [] := by
      cases l with
      | nil => rfl
      | cons t r => obtain ⟨b, off, e, _⟩ := ht.2 (by simp); cases e
    subst h0
    go_enter Try.func25, Try.ntmps25
    go_wp2
    go_ret
    exact ⟨_, rfl, World.ownsRow_nil _ _ _ _, Below.refl _ _⟩
  | some ad =>
    have hc : Hid (∀ j u, (rowC l)[j]? = some u → (w.alloc (.cells #[] 35)).cell? (ad.add j) = some u) := by
      intro j u hu
      have hj : j < (rowC l).length := by
        rcases Nat.lt_or_ge j (rowC l).length with h | h
        · exact h
        · rw [List.getElem?_eq_none h] at hu; cases hu
      obtain ⟨b, off, e, hb, hcell⟩ := ht.2 (by rw [rowC_length] at hj; omega)
      injection e with e
      subst e
      rw [Addr.add_lit]
      exact (World.cell?_alloc_lt _ _ ⟨b, off + j, none⟩ hb).trans (hcell j u hu)
    go_enter Try.func25, Try.ntmps25
    go_wp2_with (at_builtin; refine wpList_append_own _ rfl (.tmp 5) (.tmp 6) 23 rfl w.heap.size 35 i0 _ 4 40 Try.underlying23 HI.out HZ0.out HZ1.out HZ2.out rfl (by omega) _ _ _ rfl (World.ownsRow_made w #[] 0 (Nat.le_refl _) (Nat.zero_le _) (by simp)) ad l.length c (rowC l) rfl (rowC_length l) ?c1 (rowC_one l) ?c3 ?c4 ?c5 ?_)
    case c1 => exact hc.out
    case c3 => unfold maxLen; omega
    case c4 => omega
    case c5 => simp
    intro v' w1 hown hgrow _
    go_wp2
    go_ret
    exact ⟨v', rfl, by simpa using hown, ((Below.refl _ w).alloc (Nat.le_refl _) _).grown hgrow (by simp) (by intro k hk; simp [Value.ownBlock] at hk; omega)⟩

theorem infoToks : (Try.prog.info? 23).map (fun i => (i.zero, i.size, i.bytes)) = some (some (.slice none 0 0), 1, 24) := by kernel_rfl

/-- Where a list of tokens is parted: the parts' beginnings and ends, and where what is left begins. -/
def segS : List Tok → Nat → Nat → List (Nat × Nat) × Nat
  | [], _, st => ([], st)
  | t :: r, k, st => if t.kind = 3 then ((st, k) :: (segS r (k + 1) (k + 1)).1, (segS r (k + 1) (k + 1)).2) else segS r (k + 1) st

theorem seg_sign {l : List Tok} {k st : Nat} {t : Tok} (h : l[k]? = some t) (hk : t.kind = 3) : segS (l.drop k) k st = ((st, k) :: (segS (l.drop (k + 1)) (k + 1) (k + 1)).1, (segS (l.drop (k + 1)) (k + 1) (k + 1)).2) := by
  obtain ⟨hk', rfl⟩ := List.getElem?_eq_some_iff.1 h
  rw [List.drop_eq_getElem_cons hk', segS, if_pos hk]
theorem seg_other {l : List Tok} {k st : Nat} {t : Tok} (h : l[k]? = some t) (hk : ¬ t.kind = 3) : segS (l.drop k) k st = segS (l.drop (k + 1)) (k + 1) st := by
  obtain ⟨hk', rfl⟩ := List.getElem?_eq_some_iff.1 h
  rw [List.drop_eq_getElem_cons hk', segS, if_neg hk]
theorem seg_end {l : List Tok} {k st : Nat} (hk : l.length ≤ k) : segS (l.drop k) k st = ([], st) := by rw [List.drop_eq_nil_of_le hk, segS]

/-- A part's slice value: where it lies in the whole's. -/
def SegV (oa : Option Addr) (s : Nat × Nat) (v : Value) : Prop :=
  ∃ ad : Addr, v = .slice (some ad) (s.2 - s.1) (s.2 - s.1) ∧ (s.1 < s.2 → ∃ b off, oa = some ⟨b, off, none⟩ ∧ ad = ⟨b, off + s.1 * 4, none⟩)
def SegVs (oa : Option Addr) (ss : List (Nat × Nat)) (vs : List Value) : Prop := vs.length = ss.length ∧ ∀ (j : Nat) (s : Nat × Nat), ss[j]? = some s → ∃ v, vs[j]? = some v ∧ SegV oa s v
theorem SegVs.snoc {oa : Option Addr} {ss : List (Nat × Nat)} {vs : List Value} {s : Nat × Nat} {v : Value} (h : SegVs oa ss vs) (hv : SegV oa s v) : SegVs oa (ss ++ [s]) (vs ++ [v]) := by
  refine ⟨by simp [h.1], fun j x hj => ?_⟩
  rcases Nat.lt_or_ge j ss.length with hlt | hge
  · rw [List.getElem?_append_left hlt] at hj
    obtain ⟨u, hu, hs⟩ := h.2 j x hj
    exact ⟨u, by rw [List.getElem?_append_left (by rw [h.1]; exact hlt)]; exact hu, hs⟩
  · rw [List.getElem?_append_right hge] at hj
    have hj0 : j - ss.length = 0 := by
      rcases Nat.eq_zero_or_pos (j - ss.length) with h0 | h0
      · exact h0
      · rw [List.getElem?_eq_none (by simp; omega)] at hj; cases hj
    rw [hj0] at hj
    simp at hj
    subst hj
    exact ⟨v, by rw [List.getElem?_append_right (by rw [h.1]; exact hge), h.1, hj0]; rfl, hv⟩

def StRel (l : List Tok) (oa : Option Addr) (oc : Nat) (w : World) (v s i : Value) (wr : World) : Prop :=
  ∃ (k st : Nat) (ss : List (Nat × Nat)) (vs : List Value), k ≤ l.length ∧ st ≤ k ∧ i = .int .i64 k ∧ s = .int .i64 st ∧ vs.length ≤ k ∧ wr.ownsRow w.heap.size 23 1 v vs.length vs ∧ SegVs oa ss vs ∧
    wr.ownsRow w.heap.size 35 4 (.slice oa l.length oc) l.length (rowC l) ∧ Below w.heap.size w wr ∧ Hid ((ss ++ (segS (l.drop k) k st).1, (segS (l.drop k) k st).2) = segS l 0 0)

/-- What Statements hands back. -/
def StOf (l : List Tok) (w : World) (e : Ending) (w' : World) : Prop :=
  Below w.heap.size w w' ∧
  ((∃ t, l[(segS l 0 0).2]? = some t ∧ e = .returned (.tuple #[.slice none 0 0, .int .i64 t.loc, .int .i64 2])) ∨
   (l.length ≤ (segS l 0 0).2 ∧ ∃ v vs oa oc, e = .returned (.tuple #[v, .int .i64 0, .int .i64 0]) ∧ w'.ownsRow w.heap.size 23 1 v vs.length vs ∧ SegVs oa (segS l 0 0).1 vs ∧
     w'.ownsRow w.heap.size 35 4 (.slice oa l.length oc) l.length (rowC l)))

theorem own_cap {w : World} {B e z n c : Nat} {A : Option Addr} {xs : List Value} (h : w.ownsRow B e z (.slice A n c) n xs) : n ≤ c := by
  rcases h.2 with ⟨hv, h0⟩ | ⟨g, cap, cur, hv, _, _, hn, _⟩
  · omega
  · injection hv with _ _ h3; omega
/-- Rows of different element types share no block. -/
theorem own_ne {w : World} {B B' e e' z z' n n' : Nat} {v v' : Value} {xs xs' : List Value} (h : w.ownsRow B e z v n xs) (h' : w.ownsRow B' e' z' v' n' xs') (hne : e ≠ e') : v.ownBlock = none ∨ v.ownBlock ≠ v'.ownBlock := by
  rcases h.2 with ⟨rfl, _⟩ | ⟨g, cap, cur, rfl, _, hg, _⟩
  · exact .inl rfl
  · rcases h'.2 with ⟨rfl, _⟩ | ⟨g', cap', cur', rfl, _, hg', _⟩
    · right; simp [Value.ownBlock]
    · right
      intro hh
      simp only [Value.ownBlock, Option.some.injEq] at hh
      subst hh
      rw [hg] at hg'
      injection hg' with hg'
      injection hg' with _ hg'
      exact hne hg'
theorem below_draws {B : Nat} {a w : World} (h : Below B a w) (n : Nat) : Below B a (w.drewN n) := ⟨h.os, h.tape, h.output, h.size, h.block⟩
/-- Behind the append of a part. -/
theorem st_behind {w wr w2 : World} {o1 o2 : Obj} {n c m : Nat} {v : Value} {oa : Option Addr} {xs ys : List Value} (hb : Below w.heap.size w wr) (hv : wr.ownsRow w.heap.size 23 1 v n xs) (hown : wr.ownsRow w.heap.size 35 4 (.slice oa m c) m ys)
    (hg : ((wr.alloc o1).alloc o2).grownBy w2 v.ownBlock) : w2.ownsRow w.heap.size 35 4 (.slice oa m c) m ys ∧ Below w.heap.size w w2 := by
  have z1 := hb.size
  refine ⟨((hown.alloc o1).alloc o2).kept hg (own_ne hown hv (by decide)), ?_⟩
  exact ((hb.alloc (by omega) _).alloc (by simp; omega) _).grown hg (by simp; omega) fun k hk => (hv.lt k hk).1

set_option maxHeartbeats 2000000 in
theorem statements_any (A : Option Addr) (c : Nat) (l : List Tok) (w : World) (ht : Toks w A l.length l) (hl : l.length ≤ 1000000) :
    Calls Try.prog 16 #[.slice A l.length c] w (StOf l w) := by
  have C25 := Lib.hid (clone_any A c l w ht hl)
  obtain ⟨i0, hi, hz0, hz1, hz2⟩ := info_parts infoToks
  have HI := Lib.hid hi
  have HZ0 := Lib.hid hz0
  have HZ1 := Lib.hid hz1
  have HZ2 := Lib.hid hz2
  clear ht hi hz0 hz1 hz2
  go_enter Try.func16, Try.ntmps16
  go_wp2_with (go_at_call 25; refine C25.out.mono ?_; rintro e w0 ⟨own, rfl, hown0, hb0⟩; obtain ⟨oa, oc, rfl⟩ := own_slice hown0)
  go_loopw [6, 7, 8, 9, 14] (fun v s _ _ i wr => StRel l oa oc w v s i wr) (fun _ _ _ _ i _ => l.length - (intOf i).toNat)
  case atStart => exact ⟨0, 0, [], [], Nat.zero_le _, Nat.le_refl _, rfl, rfl, Nat.zero_le _, World.ownsRow_nil _ _ _ _, ⟨rfl, by simp⟩, hown0, hb0, rfl⟩
  case round =>
    obtain ⟨k, st, ss, vs, hk, hst, rfl, rfl, hvk, hv, hsv, hown, hbel, HR⟩ := hrel
    have hoc := own_cap hown
    have hbz := hbel.size
    clear hown0 hb0
    by_cases hlt : k < l.length
    · obtain ⟨b, off, t, x, rfl, hbw, htk, hx, c0, c1, c2, c3⟩ := (Toks.of_own hown).at_ hlt
      have HK := Lib.hid htk
      clear hx htk
      obtain ⟨va, vc, rfl⟩ := own_slice hv
      by_cases hk3 : t.kind = 3
      · have hk3' : ((t.kind : Int) != 3) = false := by rw [bne_eq_false_iff_eq]; omega
        have HR' : Hid (((ss ++ [(st, k)]) ++ (segS (l.drop (k + 1)) (k + 1) (k + 1)).1, (segS (l.drop (k + 1)) (k + 1) (k + 1)).2) = segS l 0 0) := Lib.hid (by rw [← HR.out, seg_sign HK.out hk3]; simp)
        have HV := Lib.hid hv
        have HO := Lib.hid hown
        have HS := Lib.hid hsv
        clear hk3 HR hv hown hsv
        by_cases hks : k = st
        · subst hks
          go_wp2_with (first
            | (at_builtin; refine wpList_append_own _ rfl (.tmp 22) (.tmp 28) 37 rfl w.heap.size 23 i0 _ 1 24 Try.underlying37 HI.out HZ0.out HZ1.out HZ2.out rfl (by omega) _ _ _ rfl ((HV.out.alloc _).alloc _) ⟨wr.heap.size + 1, 0, none⟩ 1 1 [.slice (some ⟨b, off, none⟩) 0 0] rfl rfl ?c1 ?c2 ?c3 ?c4 ?c5 ?_))
          case c1 =>
            intro j u hj
            match j, hj with
            | 0, hj => simp at hj; subst hj; simp [Addr.add]
          case c2 => intro u hu; simp at hu; subst hu; rfl
          case c3 => unfold maxLen; omega
          case c4 => omega
          case c5 => simp; omega
          intro v' w2 hown' hgrow _
          obtain ⟨ho2, hb2⟩ := st_behind hbel HV.out HO.out hgrow
          have HS' := Lib.hid (HS.out.snoc (s := (k, k)) (v := .slice (some ⟨b, off, none⟩) 0 0) ⟨⟨b, off, none⟩, by simp, fun h => by simp at h⟩)
          have HV' : Hid (w2.ownsRow w.heap.size 23 1 v' (vs ++ [Value.slice (some ⟨b, off, none⟩) 0 0]).length (vs ++ [Value.slice (some ⟨b, off, none⟩) 0 0])) := Lib.hid (by rw [List.length_append]; exact hown')
          clear hown' hgrow
          go_wp2
          go_roundw
          case rel => exact ⟨k + 1, k + 1, _, _, hlt, Nat.le_refl _, by go_num, by go_num, by simp; omega, HV'.out, HS'.out, ho2, hb2, HR'⟩
          case measure => simp [intOf]; omega
        · have hks' : ¬ k = st := hks
          go_wp2_with (first
            | (at_builtin; refine wpList_append_own _ rfl (.tmp 22) (.tmp 28) 37 rfl w.heap.size 23 i0 _ 1 24 Try.underlying37 HI.out HZ0.out HZ1.out HZ2.out rfl (by omega) _ _ _ rfl ((HV.out.alloc _).alloc _) ⟨wr.heap.size + 1, 0, none⟩ 1 1 [.slice (some ⟨b, off + st * 4, none⟩) (k - st) (k - st)] rfl rfl ?d1 ?d2 ?d3 ?d4 ?d5 ?_))
          case d1 =>
            intro j u hj
            match j, hj with
            | 0, hj => simp at hj; subst hj; simp [Addr.add]
          case d2 => intro u hu; simp at hu; subst hu; rfl
          case d3 => unfold maxLen; omega
          case d4 => omega
          case d5 => simp; omega
          intro v' w2 hown' hgrow _
          obtain ⟨ho2, hb2⟩ := st_behind hbel HV.out HO.out hgrow
          have HS' := Lib.hid (HS.out.snoc (s := (st, k)) (v := .slice (some ⟨b, off + st * 4, none⟩) (k - st) (k - st)) ⟨_, rfl, fun _ => ⟨b, off, rfl, rfl⟩⟩)
          have HV' : Hid (w2.ownsRow w.heap.size 23 1 v' (vs ++ [Value.slice (some ⟨b, off + st * 4, none⟩) (k - st) (k - st)]).length (vs ++ [Value.slice (some ⟨b, off + st * 4, none⟩) (k - st) (k - st)])) := Lib.hid (by rw [List.length_append]; exact hown')
          clear hown' hgrow
          go_wp2
          go_roundw
          case rel => exact ⟨k + 1, k + 1, _, _, hlt, Nat.le_refl _, by go_num, by go_num, by simp; omega, HV'.out, HS'.out, ho2, hb2, HR'⟩
          case measure => simp [intOf]; omega
      · have hk3' : ((t.kind : Int) != 3) = true := by rw [bne_iff_ne]; omega
        have HR' : Hid ((ss ++ (segS (l.drop (k + 1)) (k + 1) st).1, (segS (l.drop (k + 1)) (k + 1) st).2) = segS l 0 0) := Lib.hid (by rw [← HR.out, seg_other HK.out hk3])
        have HV := Lib.hid hv
        have HO := Lib.hid hown
        have HS := Lib.hid hsv
        clear hk3 HR hv hown hsv
        go_wp2_with fail
        go_roundw
        case rel => exact ⟨k + 1, st, ss, vs, hlt, by omega, by go_num, rfl, by omega, HV.out.alloc _, HS.out, HO.out.alloc _, hbel.alloc hbz _, HR'⟩
        case measure => simp [intOf]; omega
    · obtain rfl : k = l.length := by omega
      have HF : Hid ((ss, st) = segS l 0 0) := Lib.hid (by rw [← HR.out, seg_end (Nat.le_refl _)]; simp)
      clear HR
      by_cases hs2 : st < l.length
      · obtain ⟨b, off, t, x, rfl, hbw, htk, hx, c0, c1, c2, c3⟩ := (Toks.of_own hown).at_ hs2
        have HK : Hid (l[(segS l 0 0).2]? = some t) := Lib.hid (by rw [← HF.out]; exact htk)
        clear hx htk hown hv hsv
        go_wp2_with fail
        go_quiet (fail)
        go_wp2
        go_ret3
        exact ⟨below_draws hbel nq, .inl ⟨t, HK.out, rfl⟩⟩
      · have HK : Hid (l.length ≤ (segS l 0 0).2) := Lib.hid (by rw [← HF.out]; simp; omega)
        have HS : Hid (SegVs oa (segS l 0 0).1 vs) := Lib.hid (by rw [← HF.out]; exact hsv)
        have HV := Lib.hid hv
        have HO := Lib.hid hown
        clear hv hown hsv
        go_wp2_with fail
        go_ret3
        exact ⟨hbel, .inr ⟨HK.out, _, vs, oa, oc, rfl, HV.out, HS.out, HO.out⟩⟩
end Go.Proofs.Ytfainhgonaghfaa
