/-
  The walk of TextAgain: of every text it answers true. The plain model of TextOrder's loop: the lines of a text by what they begin with. No program.
-/
import Derived.Test.YtigbceankmfaeaaGreatDoorTacj
import Derived.Test.YtigbceankmfaeaaGreatDoorTaaf
namespace Go.Proofs.YtigbceankmfaeaaGreatDoor.P3.L
open Go.RowKit Go.Shelf Go.Proofs.YtigbceankmfaeaaGreatDoor Go.Proofs.YtigbceankmfaeaaGreatDoor.P3 Go.Proofs.YtigbceankmfaeaaGreatDoor.P3.C
/-- The box of a graph. -/
abbrev gbox (g : Gr) : Obj := .cells #[.slice g.ga g.gs.length g.gc, .slice g.ea g.es.length g.ec, .slice g.ra g.rs.length g.rc, .slice g.ua g.us.length g.uc] 27 (0, 0)
structure GB (w W : World) (b : Nat) (g : Gr) : Prop where
  old : Below w.heap.size w W
  box : W.heap[b]? = some (gbox g)
theorem GB.call {w W W' : World} {b : Nat} {g : Gr} (h : GB w W b g) (hb : Below W.heap.size W W') : GB w W' b g := ⟨h.old.trans (hb.mono h.old.size), (hb.block _ (B.blk_lt h.box)).trans h.box⟩
theorem GB.alloc {w W : World} {b : Nat} {g : Gr} (h : GB w W b g) (o : Obj) : GB w (W.alloc o) b g := ⟨h.old.alloc h.old.size o, B.heap_old (B.blk_lt h.box) h.box⟩
theorem GB.new {w W : World} (g : Gr) (h : Below w.heap.size w W) : GB w (W.alloc (gbox g)) W.heap.size g := ⟨h.alloc h.size _, B.heap_new _ _⟩
theorem GB.cells {w W : World} {b : Nat} {g : Gr} (h : GB w W b g) : W.cell? ⟨b, 0, none⟩ = some (.slice g.ga g.gs.length g.gc) ∧ W.cell? ⟨b, 1, none⟩ = some (.slice g.ea g.es.length g.ec) ∧ W.cell? ⟨b, 2, none⟩ = some (.slice g.ra g.rs.length g.rc) ∧ W.cell? ⟨b, 3, none⟩ = some (.slice g.ua g.us.length g.uc) ∧ b < W.heap.size :=
  ⟨B.cell_blk h.box rfl, B.cell_blk h.box rfl, B.cell_blk h.box rfl, B.cell_blk h.box rfl, B.blk_lt h.box⟩
theorem LG.alloc {w : World} {vs : List PartV} {g : Gr} (h : LG w vs g) (o : Obj) : LG (w.alloc o) vs g := h.below ((Below.refl _ _).alloc (Nat.le_refl _) _)
/-- Two graphs of the same parts. -/
theorem LG.same {w w' : World} {vs : List PartV} {g h : Gr} (x : LG w vs g) (y : LG w' vs h) : h.gs = g.gs ∧ h.es = g.es ∧ h.rs = g.rs ∧ h.us.map usBare = g.us.map usBare :=
  ⟨y.gs.trans x.gs.symm, y.es.trans x.es.symm, y.rs.trans x.rs.symm, y.us.trans x.us.symm⟩
/-- The parts that a graph of these parts tells are these parts. -/
def zG : Gr := ⟨[], [], [], [], none, 0, none, 0, none, 0, none, 0⟩
theorem z_in (w : World) : InG w zG := ⟨fun h => absurd rfl h, fun h => absurd rfl h, fun h => absurd rfl h, fun h => absurd rfl h, fun _ h => nomatch h⟩
theorem z_sz : SzG zG := ⟨by decide, by decide, by decide, by decide, (fun _ h => nomatch h), (fun _ h => nomatch h), (fun _ h => nomatch h), (fun _ h => nomatch h)⟩
theorem z_same (w : World) : Calls Tryz.prog 14 #[.agg #[.slice none 0 0, .slice none 0 0, .slice none 0 0, .slice none 0 0], .agg #[.slice none 0 0, .slice none 0 0, .slice none 0 0, .slice none 0 0]] w fun e w' =>
    e = .returned (.bool true) ∧ Below w.heap.size w w' :=
  (refsame_any w zG zG (z_in w) (z_in w) z_sz).mono fun _ _ h => h
/-- What Parse says, in the walk's words. -/
theorem parse_word (s : ByteArray) (w : World) (hs : s.size ≤ 140737488351232) (vs : List PartV) (h : parseL s.data.toList = (vs, 0, 0)) : Calls Tryz.prog 12 #[.string s] w fun e w' =>
    ∃ g : Gr, e = .returned (.tuple #[.agg #[.slice g.ga g.gs.length g.gc, .slice g.ea g.es.length g.ec, .slice g.ra g.rs.length g.rc, .slice g.ua g.us.length g.uc], .int .i64 0, .int .i64 0]) ∧ Below w.heap.size w w' ∧ LG w' vs g := by
  refine (parse_any s w hs).mono fun e w' ⟨hb, h1⟩ => ?_
  rw [h, if_pos rfl] at h1
  obtain ⟨v0, v1, v2, v3, rfl, h1⟩ := h1
  obtain ⟨g, rfl, rfl, rfl, rfl, hg⟩ := gro_in h1 (parse_may h)
  exact ⟨g, rfl, hb, hg⟩
theorem parse_wrong (s : ByteArray) (w : World) (hs : s.size ≤ 140737488351232) (h : (parseL s.data.toList).2.2 ≠ 0) : Calls Tryz.prog 12 #[.string s] w fun e w' =>
    e = .returned (.tuple #[grZ, .int .i64 ((parseL s.data.toList).2.1 : Int), .int .i64 ((parseL s.data.toList).2.2 : Int)]) ∧ Below w.heap.size w w' := by
  refine (parse_any s w hs).mono fun e w' ⟨hb, h1⟩ => ?_
  rw [if_neg h] at h1
  exact ⟨h1, hb⟩
theorem print_word (w : World) (g : Gr) {vs : List PartV} (h : LG w vs g) (hm : mayL (grOf vs) = true) (ht : Tab w.heap.size w) :
    Calls Tryz.prog 10 #[.agg #[.slice g.ga g.gs.length g.gc, .slice g.ea g.es.length g.ec, .slice g.ra g.rs.length g.rc, .slice g.ua g.us.length g.uc]] w fun e w' =>
      ∃ S : List UInt8, e = .returned (.tuple #[.string ⟨S.toArray⟩, .int .i64 0]) ∧ Below w.heap.size w w' ∧ S.length ≤ 69080 ∧ parseL S = (partsV g, 0, 0) := by
  have hm' : mayL g = true := h.may.symm.trans hm
  have hc : (checkL g).2.2 = 0 := by have := (may_iff.1 hm').1; unfold mayL at hm'; simpa using hm'
  refine (print_any w g h.lies h.small h.cap h.nil ht).mono fun e w' ⟨hb, h1⟩ => ?_
  rw [if_pos hc] at h1
  exact ⟨_, h1, hb, (may_ok hm').bytes, parse_joined hm'⟩
theorem LG.parts {w w' : World} {vs : List PartV} {g h : Gr} (_ : LG w vs g) (y : LG w' (partsV g) h) : sameL g h = true := same_self y.back.1 y.back.2.1 y.back.2.2.1 y.back.2.2.2
theorem LG.twice {w w' : World} {vs : List PartV} {g h : Gr} (x : LG w vs g) (y : LG w' vs h) : sameL g h = true := same_self (x.same y).1 (x.same y).2.1 (x.same y).2.2.1 (x.same y).2.2.2
theorem fst_zero {a : List PartV × Nat × Nat} (h : a.2.2 = 0 → a.2.1 = 0) (h0 : a.2.2 = 0) : a = (a.1, 0, 0) := by
  obtain ⟨x, y, z⟩ := a
  simp only at h h0
  rw [h h0, h0]
theorem parse_shape (s : List UInt8) : (parseL s).2.2 = 0 → (parseL s).2.1 = 0 := by
  unfold parseL
  generalize lexL s = r
  obtain ⟨toks, k, c⟩ := r
  simp only
  by_cases hc : c = 0
  · rw [if_pos hc]
    unfold tellT
    generalize splitT (toks.map bare) [] = p
    generalize locAt toks (segS toks 0 0).2 = y
    by_cases hp : p.2 = []
    · rw [if_pos hp]
      unfold goodL
      generalize firstBad p.1 0 = f
      cases f with
      | some k => exact fun h => absurd h (show ¬ (2 : Nat) = 0 by decide)
      | none =>
        simp only
        unfold finL
        generalize checkL (grOf (p.1.map stV)) = d
        by_cases hd : d.2.2 = 0
        · rw [if_pos hd]; exact fun _ => rfl
        · rw [if_neg hd]; exact fun h => absurd h hd
    · rw [if_neg hp]; exact fun h => absurd h (show ¬ (2 : Nat) = 0 by decide)
  · rw [if_neg hc]; exact fun h => absurd h hc
/-- A text that is right: its tokens, joined, say the same. -/
theorem again_join {s : List UInt8} {vs : List PartV} (hs : s.length ≤ 4096) (h : parseL s = (vs, 0, 0)) : ∃ l, lexL s = (l, 0, 0) ∧ l.length ≤ 5000 ∧ parseL (joinS true l) = (vs, 0, 0) ∧ (joinS true l).length ≤ 140737488351232 := by
  rcases lexL_codes s (by omega) with ⟨l, hl⟩ | ⟨k, hl, _⟩
  · have hf := lexL_few (by omega) hl
    have hsum := (lexL_placed hl).sum (Nat.zero_le _)
    have hj := join_size l true
    have hp : parseOk (joinS true l) = some vs := (parse_join hl hf).trans (parse_ok.2 h)
    exact ⟨l, hl, hf, parse_ok.1 hp, by omega⟩
  · unfold parseL at h
    rw [hl] at h
    cases h
set_option maxRecDepth 100000 in
set_option maxHeartbeats 8000000 in
theorem again_walk (w : World) (s : ByteArray) (hs : s.size ≤ maxLen) (ht : Tab w.heap.size w) :
    Calls Tryz.prog 6 #[.string s] w fun e w' => e = .returned (.bool true) ∧ Below w.heap.size w w' := by
  unfold maxLen at hs
  have HT := Lib.hid ht
  clear ht
  go_enter Tryz.func6, Tryz.ntmps6
  go_wp2_with fail
  refine (awake_any _ HT.out).mono ?_
  rintro e w1 ⟨rfl, hb1⟩
  by_cases hz : s.size ≤ 4096
  case neg =>
    have HB1 := Lib.hid hb1
    clear hb1
    go_wp2_with fail
    go_ret
    exact ⟨rfl, HB1.out⟩
  have hl : s.data.toList.length ≤ 4096 := by rw [Array.length_toList]; exact hz
  have HB1 := Lib.hid hb1
  have hs1 : s.size ≤ 140737488351232 := by omega
  clear hb1 hs
  by_cases hc : (parseL s.data.toList).2.2 = 0
  · obtain ⟨vs, hP⟩ : ∃ vs, parseL s.data.toList = (vs, 0, 0) := by
      have := fst_zero (parse_shape s.data.toList) hc
      exact ⟨_, this⟩
    obtain ⟨l, hx, hl5, hj, hjs⟩ := again_join hl hP
    have CP := Lib.hid (fun W => parse_word s W hs1 vs hP)
    have CL := Lib.hid (fun W => Lx.lex_any s W hs1)
    have HM := Lib.hid (parse_may hP)
    have HX := Lib.hid hx
    have HJ := Lib.hid hj
    have HJS := Lib.hid hjs
    have HL5 := Lib.hid hl5
    clear hx hj hjs hl5 hP hc hl hs1
    go_wp2_with fail
    refine (CP.out _).mono ?_
    rintro e w2 ⟨g, rfl, hb2, hg2⟩
    have HG2 := Lib.hid (GB.new g (HB1.out.trans (hb2.mono HB1.out.size)))
    have HL2 := Lib.hid (hg2.alloc (gbox g))
    obtain ⟨c0, c1, c2, c3, l2⟩ := HG2.out.cells
    clear hb2 hg2 HB1
    go_wp2_with fail
    refine (print_word _ g HL2.out HM.out (tab_on HT.out HG2.out.old)).mono ?_
    rintro e w3 ⟨S, rfl, hb3, hS, hPS⟩
    have HG3 := Lib.hid (HG2.out.call hb3)
    have HL3 := Lib.hid (HL2.out.below hb3)
    have HS := Lib.hid hS
    have HPS := Lib.hid hPS
    clear hb3 hS hPS c0 c1 c2 c3 l2 HG2 HL2
    go_wp2_with fail
    refine (parse_word ⟨S.toArray⟩ w3 (by show S.toArray.size ≤ _; rw [List.size_toArray]; have := HS.out; omega) (partsV g) HPS.out).mono ?_
    rintro e w4 ⟨h, rfl, hb4, hh4⟩
    have HG4 := Lib.hid ((HG3.out.call hb4).alloc (gbox h))
    have HL4 := Lib.hid ((HL3.out.below hb4).alloc (gbox h))
    have HH4 := Lib.hid (GB.new h (HG3.out.old.trans (hb4.mono HG3.out.old.size)))
    have HK4 := Lib.hid (hh4.alloc (gbox h))
    clear hb4 hh4 HG3 HL3
    go_wp2_with fail
    refine (CL.out _).mono ?_
    rintro e w5 ⟨v, rfl, hown, hb5⟩
    rw [HX.out] at hown
    rw [HX.out]
    simp only at hown
    obtain ⟨va, vc, rfl⟩ := B.own_slice hown
    have HTK := Lib.hid (Lx.Toks.of_own hown)
    have HG5 := Lib.hid (HG4.out.call hb5)
    have HL5' := Lib.hid (HL4.out.below hb5)
    have HH5 := Lib.hid (HH4.out.call hb5)
    have HK5 := Lib.hid (HK4.out.below hb5)
    clear hown hb5 HG4 HL4 HH4 HK4
    go_wp2_with fail
    refine (Lx.join_any va vc l w5 HTK.out (by have := HL5.out; omega) (by have := HJS.out; omega)).mono ?_
    rintro e w6 ⟨rfl, hb6⟩
    have HG6 := Lib.hid (HG5.out.call hb6)
    have HL6 := Lib.hid (HL5'.out.below hb6)
    have HH6 := Lib.hid (HH5.out.call hb6)
    have HK6 := Lib.hid (HK5.out.below hb6)
    clear hb6 HG5 HL5' HH5 HK5 HTK
    go_wp2_with fail
    refine (parse_word ⟨(joinS true l).toArray⟩ w6 (by show (joinS true l).toArray.size ≤ _; rw [List.size_toArray]; exact HJS.out) vs HJ.out).mono ?_
    rintro e w7 ⟨x, rfl, hb7, hx7⟩
    have HG7 := Lib.hid ((HG6.out.call hb7).alloc (gbox x))
    have HL7 := Lib.hid ((HL6.out.below hb7).alloc (gbox x))
    have HH7 := Lib.hid ((HH6.out.call hb7).alloc (gbox x))
    have HK7 := Lib.hid ((HK6.out.below hb7).alloc (gbox x))
    have HX7 := Lib.hid (GB.new x (HG6.out.old.trans (hb7.mono HG6.out.old.size)))
    have HY7 := Lib.hid (hx7.alloc (gbox x))
    obtain ⟨c0, c1, c2, c3, l2⟩ := HG7.out.cells
    obtain ⟨d0, d1, d2, d3, m2⟩ := HH7.out.cells
    have EQ1 := Lib.hid (HL7.out.parts HK7.out)
    clear hb7 hx7 HG6 HL6 HH6 HK6
    go_wp2_with fail
    refine (refsame_any _ g h HL7.out.lies HK7.out.lies HL7.out.small).mono ?_
    rintro e w8 ⟨rfl, hb8⟩
    rw [EQ1.out]
    have HG8 := Lib.hid (HG7.out.call hb8)
    have HL8 := Lib.hid (HL7.out.below hb8)
    have HX8 := Lib.hid (HX7.out.call hb8)
    have HY8 := Lib.hid (HY7.out.below hb8)
    have EQ2 := Lib.hid (HL8.out.twice HY8.out)
    clear hb8 c0 c1 c2 c3 l2 d0 d1 d2 d3 m2 HG7 HL7 HH7 HK7 HX7 HY7
    obtain ⟨c0, c1, c2, c3, l2⟩ := HG8.out.cells
    obtain ⟨d0, d1, d2, d3, m2⟩ := HX8.out.cells
    go_wp2_with fail
    refine (refsame_any _ g x HL8.out.lies HY8.out.lies HL8.out.small).mono ?_
    rintro e w9 ⟨rfl, hb9⟩
    rw [EQ2.out]
    have HB9 := Lib.hid (HG8.out.call hb9).old
    clear hb9
    go_wp2_with fail
    go_ret
    exact ⟨rfl, HB9.out⟩
  · have CP := Lib.hid (fun W => parse_wrong s W hs1 hc)
    have hp : (parseL s.data.toList).2.1 ≤ s.size := by have := parse_at (s := s.data.toList) (by omega); rwa [Array.length_toList] at this
    have hne : (((parseL s.data.toList).2.2 : Int) != 0) = true := by rw [bne_iff_ne]; omega
    generalize (parseL s.data.toList).2.2 = cc at *
    generalize (parseL s.data.toList).2.1 = pp at *
    clear hc hl hs1
    go_wp2_with fail
    refine (CP.out _).mono ?_
    rintro e w2 ⟨rfl, hb2⟩
    have HB2 := Lib.hid ((HB1.out.trans (hb2.mono HB1.out.size)).alloc (by have := hb2.size; have := HB1.out.size; omega) (.cells #[nilV, nilV, nilV, nilV] 27))
    have hx := B.heap_new w2 (.cells #[nilV, nilV, nilV, nilV] 27)
    have c0 := B.cell_blk (i := 0) hx rfl
    have c1 := B.cell_blk (i := 1) hx rfl
    have c2 := B.cell_blk (i := 2) hx rfl
    have c3 := B.cell_blk (i := 3) hx rfl
    clear hx hb2
    go_wp2_with fail
    refine (z_same _).mono ?_
    rintro e w3 ⟨rfl, hb3⟩
    have HB3 := Lib.hid (HB2.out.trans (hb3.mono HB2.out.size))
    clear hb3 c0 c1 c2 c3
    go_wp2_with fail
    go_ret
    exact ⟨rfl, HB3.out⟩
end Go.Proofs.YtigbceankmfaeaaGreatDoor.P3.L

namespace Go.Proofs.YtigbceankmfaeaaGreatDoor.P3.L
open Go.RowKit Go.Proofs.YtigbceankmfaeaaGreatDoor Go.Proofs.YtigbceankmfaeaaGreatDoor.P3
structure OSt where
  p0 : List UInt8
  p1 : List UInt8
  p2 : List UInt8
  p3 : List UInt8
  ln : List UInt8
def kindB (l : List UInt8) : Nat := if l.take 2 = [101, 118] then 1 else if l.head? = some 103 then 0 else if l.head? = some 117 then 3 else 2
def addK (s : OSt) (k : Nat) (l : List UInt8) : OSt :=
  if k = 0 then ⟨s.p0 ++ l, s.p1, s.p2, s.p3, []⟩ else if k = 1 then ⟨s.p0, s.p1 ++ l, s.p2, s.p3, []⟩ else if k = 2 then ⟨s.p0, s.p1, s.p2 ++ l, s.p3, []⟩ else ⟨s.p0, s.p1, s.p2, s.p3 ++ l, []⟩
def stepO (s : OSt) (c : UInt8) : OSt := if c = 10 then addK s (kindB (s.ln ++ [c])) (s.ln ++ [c]) else ⟨s.p0, s.p1, s.p2, s.p3, s.ln ++ [c]⟩
def foldO (S : List UInt8) : OSt := S.foldl stepO ⟨[], [], [], [], []⟩
/-- Ahead of each line feed there is something on its line. -/
def okO : List UInt8 → Nat → Bool
  | [], _ => true
  | c :: r, n => if c = 10 then decide (1 ≤ n) && okO r 0 else okO r (n + 1)
theorem addK_ln (s : OSt) (k : Nat) (l : List UInt8) : (addK s k l).ln = [] := by unfold addK; split <;> (try split) <;> (try split) <;> rfl
theorem fold_next (S : List UInt8) (i : Nat) (h : i < S.length) : foldO (S.take (i + 1)) = stepO (foldO (S.take i)) S[i] := by
  unfold foldO
  rw [List.take_succ_eq_append_getElem h, List.foldl_append]; rfl
theorem ok_drop (S : List UInt8) (h0 : okO S 0 = true) : ∀ i, i ≤ S.length → okO (S.drop i) (foldO (S.take i)).ln.length = true
  | 0, _ => by simpa [foldO] using h0
  | i + 1, h => by
    have ih := ok_drop S h0 i (by omega)
    rw [List.drop_eq_getElem_cons (by omega), okO] at ih
    rw [fold_next S i (by omega)]
    unfold stepO
    by_cases hc : S[i] = 10
    · rw [if_pos hc] at ih ⊢
      rw [Bool.and_eq_true] at ih
      rw [addK_ln]; exact ih.2
    · rw [if_neg hc] at ih ⊢
      simpa using ih
theorem ok_line {S : List UInt8} (h0 : okO S 0 = true) {i : Nat} (h : i < S.length) (hc : S[i] = 10) : 1 ≤ (foldO (S.take i)).ln.length := by
  have ih := ok_drop S h0 i (by omega)
  rw [List.drop_eq_getElem_cons h, okO, if_pos hc, Bool.and_eq_true, decide_eq_true_eq] at ih
  exact ih.1
/-- All parts and the line so far are as long as what was read. -/
def lenO (s : OSt) : Nat := s.p0.length + s.p1.length + s.p2.length + s.p3.length + s.ln.length
theorem addK_len (s : OSt) (k : Nat) (c : UInt8) : lenO (addK s k (s.ln ++ [c])) = lenO s + 1 := by
  unfold addK lenO
  split
  · simp; omega
  · split
    · simp; omega
    · split <;> (simp; omega)
theorem step_len (s : OSt) (c : UInt8) : lenO (stepO s c) = lenO s + 1 := by
  unfold stepO
  split
  · exact addK_len s _ c
  · unfold lenO; simp; omega
theorem foldl_len : ∀ (S : List UInt8) (s : OSt), lenO (S.foldl stepO s) = lenO s + S.length
  | [], s => rfl
  | c :: r, s => by rw [List.foldl_cons, foldl_len r, step_len, List.length_cons]; omega
theorem fold_len (S : List UInt8) : lenO (foldO S) = S.length := by unfold foldO; rw [foldl_len]; simp [lenO]
theorem plain_fold : ∀ (x : List UInt8) (s : OSt), (∀ c ∈ x, c ≠ 10) → x.foldl stepO s = ⟨s.p0, s.p1, s.p2, s.p3, s.ln ++ x⟩
  | [], s, _ => by simp
  | c :: r, s, h => by
    rw [List.foldl_cons, stepO, if_neg (h c (List.mem_cons_self ..)), plain_fold r _ (fun y hy => h y (List.mem_cons_of_mem _ hy))]
    simp
theorem plain_ok : ∀ (x r : List UInt8) (n : Nat), (∀ c ∈ x, c ≠ 10) → okO (x ++ r) n = okO r (n + x.length)
  | [], r, n, _ => by simp
  | c :: x, r, n, h => by
    rw [List.cons_append, okO, if_neg (h c (List.mem_cons_self ..)), plain_ok x r _ (fun y hy => h y (List.mem_cons_of_mem _ hy)), List.length_cons]
    congr 1; omega
/-- A line: something without a line feed, and one. -/
def LineOk (k : Nat) (l : List UInt8) : Prop := ∃ x, l = x ++ [10] ∧ x ≠ [] ∧ (∀ c ∈ x, c ≠ 10) ∧ kindB l = k
theorem line_fold {k : Nat} {l : List UInt8} (h : LineOk k l) (s : OSt) (hs : s.ln = []) : l.foldl stepO s = addK s k l := by
  obtain ⟨x, rfl, _, hx, hk⟩ := h
  rw [List.foldl_append, plain_fold x s hx]
  simp only [List.foldl_cons, List.foldl_nil]
  rw [stepO, if_pos rfl, hs, List.nil_append]
  simp only [hk]
  unfold addK
  rfl
theorem line_ok {k : Nat} {l r : List UInt8} (h : LineOk k l) : okO (l ++ r) 0 = okO r 0 := by
  obtain ⟨x, rfl, h0, hx, _⟩ := h
  rw [List.append_assoc, plain_ok x _ 0 hx, List.singleton_append, okO, if_pos rfl]
  have : 0 < x.length := List.length_pos_iff.2 h0
  rw [decide_eq_true (by omega), Bool.true_and]
theorem lines_ok : ∀ (ls : List (List UInt8)), (∀ l ∈ ls, ∃ k, LineOk k l) → okO ls.flatten 0 = true
  | [], _ => rfl
  | l :: r, h => by
    obtain ⟨k, hk⟩ := h l (List.mem_cons_self ..)
    rw [List.flatten_cons, line_ok hk, lines_ok r (fun x hx => h x (List.mem_cons_of_mem _ hx))]
theorem lines_fold (k : Nat) : ∀ (ls : List (List UInt8)) (s : OSt), s.ln = [] → (∀ l ∈ ls, LineOk k l) → ls.flatten.foldl stepO s = addK s k ls.flatten
  | [], s, hs, _ => by
    obtain ⟨a, b, c, d, e⟩ := s
    simp only at hs
    subst hs
    unfold addK
    split <;> (try split) <;> (try split) <;> simp
  | l :: r, s, hs, h => by
    rw [List.flatten_cons, List.foldl_append, line_fold (h l (List.mem_cons_self ..)) s hs, lines_fold k r _ (addK_ln _ _ _) (fun x hx => h x (List.mem_cons_of_mem _ hx))]
    unfold addK
    split
    · simp
    · split
      · simp
      · split <;> simp
theorem inn_ten {x : List UInt8} (h : x.all innB = true) : ∀ c ∈ x, c ≠ 10 := by
  intro c hc e
  have := List.all_eq_true.1 h c hc
  rw [e] at this
  exact absurd this (by decide)
theorem name_ten {x : List UInt8} (h : nameL x = true) : ∀ c ∈ x, c ≠ 10 := by
  obtain ⟨c, r, rfl, _, h1, h2⟩ := nameL_cons h
  intro y hy
  rcases List.mem_cons.1 hy with rfl | hy
  · rintro rfl; exact absurd h1 (by decide)
  · exact inn_ten h2 y hy
theorem words_ten {g : Gr} (h : MayOk g) : ∀ l ∈ linesW g, ∀ x ∈ l, ∀ c ∈ x, c ≠ 10 :=
  h.words (q := fun x => ∀ c ∈ x, c ≠ 10) (by decide) (fun _ h => name_ten (nameK_L h)) (fun n _ => inn_ten (dig_all n))
/-- A line of words, the first of which is not short. -/
theorem line_of (k : Nat) (c1 c2 : UInt8) (t : List UInt8) (ws : List (List UInt8)) (h : ∀ x ∈ (c1 :: c2 :: t) :: ws, ∀ c ∈ x, c ≠ 10) (hk : ∀ r, kindB (c1 :: c2 :: r) = k) : LineOk k (lineB ((c1 :: c2 :: t) :: ws)) := by
  refine ⟨(c1 :: c2 :: t) ++ (ws.flatMap (fun y => 32 :: y) ++ [59]), by simp [lineB], by simp, fun c hc => ?_, by simp [lineB, hk]⟩
  rcases List.mem_append.1 hc with hc | hc
  · exact h _ (List.mem_cons_self ..) c hc
  · rcases List.mem_append.1 hc with hc | hc
    · obtain ⟨y, hy, hc⟩ := List.mem_flatMap.1 hc
      rcases List.mem_cons.1 hc with rfl | hc
      · decide
      · exact h y (List.mem_cons_of_mem _ hy) c hc
    · obtain rfl := List.mem_singleton.1 hc; decide
theorem opt_cons (l : List UInt8) (r : List (List UInt8)) (a b : List UInt8) : ∃ r', optB (l :: r) a b = l :: r' := by unfold optB; split <;> exact ⟨_, rfl⟩
theorem gp_line {g : Gr} (h : MayOk g) : ∀ p ∈ g.gs, LineOk 0 (lineB (gpW p)) := by
  intro p hp
  have hw := words_ten h (gpW p) (by unfold linesW; exact List.mem_append_left _ (List.mem_map_of_mem hp))
  obtain ⟨r, e⟩ := opt_cons [103, 114, 111, 117, 112] [p.name.toList] [105, 110] p.parent.toList
  have e : gpW p = [103, 114, 111, 117, 112] :: r := e
  rw [e] at hw ⊢
  exact line_of 0 _ _ _ _ hw (fun r => by simp [kindB])
theorem ev_line {g : Gr} (h : MayOk g) : ∀ p ∈ g.es, LineOk 1 (lineB (evW p)) := by
  intro p hp
  have hw := words_ten h (evW p) (by unfold linesW; exact List.mem_append_right _ (List.mem_append_left _ (List.mem_map_of_mem hp)))
  obtain ⟨r, e⟩ := opt_cons [101, 118, 101, 110, 116] [p.name.toList] [105, 110] p.group.toList
  have e : ∃ r, evW p = [101, 118, 101, 110, 116] :: r := by unfold evW; rw [e]; exact ⟨_, rfl⟩
  obtain ⟨r, e⟩ := e
  rw [e] at hw ⊢
  exact line_of 1 _ _ _ _ hw (fun r => by simp [kindB])
theorem rl_line {g : Gr} (h : MayOk g) : ∀ p ∈ g.rs, LineOk 2 (lineB (rlW p)) := by
  intro p hp
  have hw := words_ten h (rlW p) (by unfold linesW; exact List.mem_append_right _ (List.mem_append_right _ (List.mem_append_left _ (List.mem_map_of_mem hp))))
  have e : ∃ r, rlW p = kwB p.kind :: r := ⟨_, rfl⟩
  obtain ⟨r, e⟩ := e
  rw [e] at hw ⊢
  unfold kwB at hw ⊢
  split
  · rw [if_pos (by assumption)] at hw; exact line_of 2 _ _ _ _ hw (fun r => by simp [kindB])
  · rw [if_neg (by assumption)] at hw
    split
    · rw [if_pos (by assumption)] at hw; exact line_of 2 _ _ _ _ hw (fun r => by simp [kindB])
    · rw [if_neg (by assumption)] at hw
      split
      · rw [if_pos (by assumption)] at hw; exact line_of 2 _ _ _ _ hw (fun r => by simp [kindB])
      · rw [if_neg (by assumption)] at hw
        split
        · rw [if_pos (by assumption)] at hw; exact line_of 2 _ _ _ _ hw (fun r => by simp [kindB])
        · rw [if_neg (by assumption)] at hw; exact line_of 2 _ _ _ _ hw (fun r => by simp [kindB])
theorem us_line {g : Gr} (h : MayOk g) : ∀ p ∈ g.us, LineOk 3 (lineB (usW p)) := by
  intro p hp
  have hw := words_ten h (usW p) (by unfold linesW; exact List.mem_append_right _ (List.mem_append_right _ (List.mem_append_right _ (List.mem_map_of_mem hp))))
  obtain ⟨r, e⟩ := opt_cons [117, 115, 101, 114] ([p.name.toList, [114, 111, 108, 101, 115]] ++ p.roles.map ByteArray.toList) [115, 117, 98] p.sub.toList
  have e : usW p = [117, 115, 101, 114] :: r := e
  rw [e] at hw ⊢
  exact line_of 3 _ _ _ _ hw (fun r => by simp [kindB])
def linesF (l : List (List (List UInt8))) : List UInt8 := (l.map lineB).flatten
theorem print_parts (g : Gr) : printB g = linesF (g.gs.map gpW) ++ (linesF (g.es.map evW) ++ (linesF (g.rs.map rlW) ++ linesF (g.us.map usW))) := by
  unfold printB linesW linesF
  simp [List.flatMap_def]
theorem all_of {α : Type} {f : α → List (List UInt8)} {k : Nat} {l : List α} (h : ∀ p ∈ l, LineOk k (lineB (f p))) : ∀ x ∈ (l.map f).map lineB, LineOk k x := by
  intro x hx
  rw [List.map_map] at hx
  obtain ⟨p, hp, rfl⟩ := List.mem_map.1 hx
  exact h p hp
theorem print_fold {g : Gr} (h : MayOk g) : foldO (printB g) = ⟨linesF (g.gs.map gpW), linesF (g.es.map evW), linesF (g.rs.map rlW), linesF (g.us.map usW), []⟩ := by
  rw [print_parts]
  unfold foldO
  rw [List.foldl_append, List.foldl_append, List.foldl_append]
  unfold linesF
  rw [lines_fold 0 _ _ rfl (all_of (gp_line h)), lines_fold 1 _ _ (addK_ln _ _ _) (all_of (ev_line h)), lines_fold 2 _ _ (addK_ln _ _ _) (all_of (rl_line h)), lines_fold 3 _ _ (addK_ln _ _ _) (all_of (us_line h))]
  simp [addK]
theorem print_okO {g : Gr} (h : MayOk g) : okO (printB g) 0 = true := by
  have e : printB g = ((linesW g).map lineB).flatten := by unfold printB; rw [List.flatMap_def]
  rw [e]
  refine lines_ok _ fun l hl => ?_
  unfold linesW at hl
  simp only [List.map_append, List.mem_append] at hl
  rcases hl with hl | hl | hl | hl
  · exact ⟨0, all_of (gp_line h) l hl⟩
  · exact ⟨1, all_of (ev_line h) l hl⟩
  · exact ⟨2, all_of (rl_line h) l hl⟩
  · exact ⟨3, all_of (us_line h) l hl⟩
/-- What TextOrder lets read: users, relations, events, groups. -/
theorem order_text (g : Gr) : (linesO g).flatMap (fun l => lineB (l.map (·.2.1))) = linesF (g.us.map usW) ++ linesF (g.rs.map rlW) ++ linesF (g.es.map evW) ++ linesF (g.gs.map gpW) := by
  unfold linesO linesF
  simp only [List.flatMap_def, List.map_append, List.flatten_append, List.map_map, List.append_assoc]
  have e1 : ((fun l => lineB (List.map (fun x : B3 => x.2.1) l)) ∘ usT) = lineB ∘ usW := funext fun u => by simp [us_txt]
  have e2 : ((fun l => lineB (List.map (fun x : B3 => x.2.1) l)) ∘ rlT) = lineB ∘ rlW := funext fun u => by simp [rl_txt]
  have e3 : ((fun l => lineB (List.map (fun x : B3 => x.2.1) l)) ∘ evT) = lineB ∘ evW := funext fun u => by simp [ev_txt]
  have e4 : ((fun l => lineB (List.map (fun x : B3 => x.2.1) l)) ∘ gpT) = lineB ∘ gpW := funext fun u => by simp [gp_txt]
  rw [e1, e2, e3, e4]
end Go.Proofs.YtigbceankmfaeaaGreatDoor.P3.L
