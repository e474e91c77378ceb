/-
  The plain model of Parse with its errors and their places; a place lies within the text. No program. A region that draws its order, walked once in the order of the text, over a class of worlds: its callees may make memory, so long as they stay in the class. Contracts of text's isName, isNumber, and of the reader's take and must.
-/
import Derived.Test.YtjgcjnkeeiaafaaGreatDoorTcac
import Derived.Test.YtjgcjnkeeiaafaaGreatDoorTcaa
import Derived.BigQuiet
import Derived.Deep.Quiet
import Derived.Test.YtjgcjnkeeiaafaaGreatDoorTcab
import Derived.Maps.AppendAt
namespace Go.Proofs.YtjgcjnkeeiaafaaGreatDoor.P3
/-- The first statement that is wrong: its token's number among all. -/
def firstBad : List (List B3) → Nat → Option Nat
  | [], _ => none
  | l :: r, k => if (stS l).2 then some (k + (stS l).1) else firstBad r (k + l.length + 1)
def partNo : PartV → Nat
  | .g _ _ => 1
  | .e _ => 2
  | .r _ => 3
  | .u _ => 4
/-- Of each statement: its part, and its first token's number among all. -/
def begL : List (List B3) → Nat → List (Nat × Nat)
  | [], _ => []
  | l :: r, k => (partNo (stV l), k) :: begL r (k + l.length + 1)
def locAt (l : List Tok) (k : Nat) : Nat := match l[k]? with | some t => t.loc | none => 0
def begins (ls : List (List B3)) (toks : List Tok) (part : Nat) : List Nat := ((begL ls 0).filter (fun x => x.1 == part)).map fun x => locAt toks x.2
/-- What Check says of the parts of right statements. -/
def finL (ls : List (List B3)) (toks : List Tok) (c : St) : List PartV × Nat × Nat :=
  if c.2.2 = 0 then (ls.map stV, 0, 0) else ([], (if c.1 = 0 then 0 else ((begins ls toks c.1)[c.2.1]?).getD 0), c.2.2)
def goodL (ls : List (List B3)) (toks : List Tok) : List PartV × Nat × Nat :=
  match firstBad ls 0 with
  | some k => ([], locAt toks k, 2)
  | none => finL ls toks (checkL (grOf (ls.map stV)))
/-- What Parse says of tokens: the parts, the place, the error. -/
def tellT (toks : List Tok) : List PartV × Nat × Nat :=
  if (splitT (toks.map bare) []).2 = [] then goodL (splitT (toks.map bare) []).1 toks else ([], locAt toks (segS toks 0 0).2, 2)
def parseL (s : List UInt8) : List PartV × Nat × Nat := if (lexL s).2.2 = 0 then tellT (lexL s).1 else ([], (lexL s).2.1, (lexL s).2.2)
theorem bad_none : ∀ (ls : List (List B3)) (k : Nat), firstBad ls k = none ↔ ls.all (fun l => !(stS l).2) = true
  | [], k => by simp [firstBad]
  | l :: r, k => by
    rw [firstBad, List.all_cons]
    cases h : (stS l).2 with
    | true => simp
    | false => simp only [Bool.false_eq_true, if_false, Bool.not_false, Bool.true_and]; exact bad_none r _
theorem fin_ok (ls : List (List B3)) (toks : List Tok) (c : St) (vs : List PartV) : finL ls toks c = (vs, 0, 0) ↔ c.2.2 = 0 ∧ ls.map stV = vs := by
  unfold finL
  by_cases h : c.2.2 = 0
  · rw [if_pos h]; simp [h]
  · rw [if_neg h]; simp [h]
theorem good_ok (ls : List (List B3)) (toks : List Tok) (vs : List PartV) : goodL ls toks = (vs, 0, 0) ↔ ls.all (fun l => !(stS l).2) = true ∧ mayL (grOf (ls.map stV)) = true ∧ ls.map stV = vs := by
  unfold goodL
  cases hb : firstBad ls 0 with
  | none =>
    simp only
    rw [fin_ok, (bad_none ls 0).1 hb]
    unfold mayL
    rw [decide_eq_true_eq]
    simp
  | some k =>
    have h2 : ¬ ls.all (fun l => !(stS l).2) = true := fun h => by rw [(bad_none ls 0).2 h] at hb; cases hb
    simp only
    constructor
    · intro e
      rw [Prod.mk.injEq, Prod.mk.injEq] at e
      exact absurd e.2.2 (by decide)
    · intro e; exact absurd e.1 h2
theorem say_ok (ts : List B3) (vs : List PartV) : sayL ts = some vs ↔ (splitT ts []).2 = [] ∧ (splitT ts []).1.all (fun l => !(stS l).2) = true ∧ mayL (grOf ((splitT ts []).1.map stV)) = true ∧ (splitT ts []).1.map stV = vs := by
  unfold sayL
  generalize splitT ts [] = p
  by_cases h : p.2 = [] ∧ p.1.all (fun l => !(stS l).2) = true
  · rw [if_pos h]
    generalize p.1.map stV = us
    cases hm : mayL (grOf us) with
    | true => simp [h.1, h.2]
    | false => simp
  · rw [if_neg h]
    constructor
    · intro e; cases e
    · intro e; exact absurd ⟨e.1, e.2.1⟩ h
/-- Nothing is wrong just where the parts are told. -/
theorem parse_ok {s : List UInt8} {vs : List PartV} : parseOk s = some vs ↔ parseL s = (vs, 0, 0) := by
  unfold parseOk parseL
  by_cases h : (lexL s).2.2 = 0
  · rw [if_pos h, if_pos h, say_ok]
    unfold tellT
    by_cases h1 : (splitT ((lexL s).1.map bare) []).2 = []
    · rw [if_pos h1, good_ok]
      exact ⟨fun e => e.2, fun e => ⟨h1, e⟩⟩
    · rw [if_neg h1]
      constructor
      · intro e; exact absurd e.1 h1
      · intro e
        rw [Prod.mk.injEq, Prod.mk.injEq] at e
        exact absurd e.2.2 (by decide)
  · rw [if_neg h, if_neg h]
    constructor
    · intro e; cases e
    · intro e
      rw [Prod.mk.injEq, Prod.mk.injEq] at e
      exact absurd e.2.2 h
end Go.Proofs.YtjgcjnkeeiaafaaGreatDoor.P3

namespace Go.Proofs.YtjgcjnkeeiaafaaGreatDoor.B
open Go.RowKit Go.Shelf
/-- A world of a class. -/
structure WIn (CC : World → Prop) where
  w : World
  h : CC w
theorem wp_region_class {P : Program} {id : Nat} {Q : Exit → Act → World → Prop} {a : Act} {w : World} {l : List Oper} (CC : World → Prop) (hm : P.follows .mixedOrders = true) (hB : Region.lexB .any l.toArray = true) (h0 : CC w.drew)
    (h : wpQuiet P l.toArray (fun w' => ∃ x : WIn CC, w' = x.w) (fun a' => ∀ w', (∃ x : WIn CC, w' = x.w) → Q .normal a' w') l a) : (Code.region id l.toArray true).wp P Q a w :=
  wp_region_quiet (C := fun w' => ∃ x : WIn CC, w' = x.w) hm hB ⟨⟨_, h0⟩, rfl⟩ (by simpa using h)
/-- A callee's contract that leaves the class as it is. -/
theorem class_call {P : Program} {f : FuncId} {args : Array Value} {CC : World → Prop} {v : Value} (hC : ∀ W W', CC W → Below W.heap.size W W' → CC W')
    (h : ∀ W, CC W → Calls P f args W fun e w' => e = .returned v ∧ Below W.heap.size W w') : ∀ x : WIn CC, Calls P f args x.w fun e w'' => e = .returned v ∧ ∃ y : WIn CC, w'' = y.w :=
  fun x => (h x.w x.h).mono fun _ _ ⟨he, hb⟩ => ⟨he, ⟨_, hC _ _ x.h hb⟩, rfl⟩
end Go.Proofs.YtjgcjnkeeiaafaaGreatDoor.B

namespace Go.Proofs.YtjgcjnkeeiaafaaGreatDoor.P3.C
open Go.RowKit Go.Shelf Go.Proofs.YtjgcjnkeeiaafaaGreatDoor.B Go.Proofs.YtjgcjnkeeiaafaaGreatDoor.Lx Go.Proofs.YtjgcjnkeeiaafaaGreatDoor.P3
instance : Inhabited Tok := ⟨⟨0, [], 0, 0⟩⟩
abbrev tokW (t : Tok) : Value := .agg #[.int .i64 t.kind, .string ⟨t.text.toArray⟩, .int .i64 t.val, .int .i64 t.loc]
abbrev tokZ : Value := .agg #[.int .i64 0, .string ⟨#[]⟩, .int .i64 0, .int .i64 0]
theorem txt_list (l : List UInt8) : (⟨l.toArray⟩ : ByteArray).toList = l := by rw [Lib.toList_data]
theorem cls_word {k v : Nat} {x : List UInt8} {y : Key} (hy : y ∈ kws) : (cls (k, x, v) == y) = (decide (k = 1) && (x == y)) := by
  rw [Bool.eq_iff_iff, beq_iff_eq, Bool.and_eq_true, decide_eq_true_eq, beq_iff_eq]
  unfold cls
  have hn : y ≠ [100] ∧ y ≠ [110] ∧ y ≠ [59] := by
    refine ⟨?_, ?_, ?_⟩
    all_goals rintro rfl; revert hy; decide
  constructor
  · intro h
    by_cases h2 : k = 2
    · simp only [h2, if_true] at h; exact absurd h.symm hn.1
    · by_cases h1 : k = 1
      · simp only [h1, if_true] at h
        rw [if_neg (by decide)] at h
        by_cases hc : kws.contains x = true
        · rw [if_pos hc] at h; exact ⟨h1, h⟩
        · rw [if_neg hc] at h; exact absurd h.symm hn.2.1
      · simp only [h2, h1, if_false] at h; exact absurd h.symm hn.2.2
  · rintro ⟨rfl, rfl⟩
    simp
    intro h; exact absurd hy h
theorem cls_num {k v : Nat} {x : List UInt8} : (cls (k, x, v) == [100]) = decide (k = 2) := by
  rw [Bool.eq_iff_iff, beq_iff_eq, decide_eq_true_eq]
  unfold cls
  constructor
  · intro h
    by_cases h2 : k = 2
    · exact h2
    · by_cases h1 : k = 1
      · simp only [h1, if_true] at h
        rw [if_neg (by decide)] at h
        by_cases hc : kws.contains x = true
        · rw [if_pos hc] at h
          exfalso; rw [h] at hc; revert hc; decide
        · rw [if_neg hc] at h; exact absurd h (by decide)
      · simp only [h2, h1, if_false] at h; exact absurd h (by decide)
  · rintro rfl; rfl
theorem cls_name {k v : Nat} {x : List UInt8} : (cls (k, x, v) == [110]) = (decide (k = 1) && !kws.contains x) := by
  rw [Bool.eq_iff_iff, beq_iff_eq, Bool.and_eq_true, decide_eq_true_eq, Bool.not_eq_true']
  unfold cls
  constructor
  · intro h
    by_cases h2 : k = 2
    · simp only [h2, if_true] at h; exact absurd h (by decide)
    · by_cases h1 : k = 1
      · simp only [h1, if_true] at h
        rw [if_neg (by decide)] at h
        by_cases hc : kws.contains x = true
        · rw [if_pos hc] at h
          exfalso; rw [h] at hc; revert hc; decide
        · exact ⟨h1, by simpa using hc⟩
      · simp only [h2, h1, if_false] at h; exact absurd h (by decide)
  · rintro ⟨rfl, h⟩
    simp only [h]
    rfl
abbrev tkV (k : Nat) (s : ByteArray) (v a : Nat) : Value := .agg #[.int .i64 (k : Int), .string s, .int .i64 (v : Int), .int .i64 (a : Int)]
set_option maxHeartbeats 1000000 in
theorem isNumber_any (k : Nat) (s : ByteArray) (v a : Nat) (w : World) : Calls Tryz.prog 131 #[tkV k s v a] w fun e w' => e = .returned (.bool (cls (k, s.toList, v) == [100])) ∧ Below w.heap.size w w' := by
  have hb : Below w.heap.size w (w.alloc (.cells #[.int .i64 (k : Int), .string s, .int .i64 (v : Int), .int .i64 (a : Int)] 54)) := (Below.refl _ _).alloc (Nat.le_refl _) _
  by_cases h : k = 2
  · have hc : Hid ((cls (k, s.toList, v) == [100]) = true) := Lib.hid (by rw [cls_num, decide_eq_true h])
    have h2 : ((k : Int) == 2) = true := by rw [beq_iff_eq]; omega
    clear h
    go_enter Tryz.func131, Tryz.ntmps131
    go_wp2_with fail
    go_ret
    exact ⟨Go.Proofs.YtjgcjnkeeiaafaaGreatDoor.B.ret_bool hc.out.symm, hb⟩
  · have hc : Hid ((cls (k, s.toList, v) == [100]) = false) := Lib.hid (by rw [cls_num, decide_eq_false h])
    have h2 : ((k : Int) == 2) = false := by rw [beq_eq_false_iff_ne]; omega
    clear h
    go_enter Tryz.func131, Tryz.ntmps131
    go_wp2_with fail
    go_ret
    exact ⟨Go.Proofs.YtjgcjnkeeiaafaaGreatDoor.B.ret_bool hc.out.symm, hb⟩
set_option maxHeartbeats 4000000 in
theorem isName_any (k : Nat) (s : ByteArray) (v a : Nat) (w : World) : Calls Tryz.prog 119 #[tkV k s v a] w fun e w' => e = .returned (.bool (cls (k, s.toList, v) == [110])) ∧ Below w.heap.size w w' := by
  have hb : Below w.heap.size w (w.alloc (.cells #[.int .i64 (k : Int), .string s, .int .i64 (v : Int), .int .i64 (a : Int)] 54)) := (Below.refl _ _).alloc (Nat.le_refl _) _
  by_cases hc : kws.contains s.toList = true
  · have HN : Hid ((cls (k, s.toList, v) == [110]) = false) := Lib.hid (by rw [cls_name, hc]; simp)
    have hm : s.toList ∈ kws := by simpa using hc
    clear hc
    simp only [kws, List.mem_cons, List.not_mem_nil, or_false] at hm
    rcases hm with h | h | h | h | h | h | h | h | h | h | h | h | h | h | h | h
    all_goals
      go_enter Tryz.func119, Tryz.ntmps119
      go_wp2_with fail
      go_ret
      exact ⟨Go.Proofs.YtjgcjnkeeiaafaaGreatDoor.B.ret_bool HN.out.symm, hb⟩
  · have HN : Hid ((cls (k, s.toList, v) == [110]) = decide (k = 1)) := Lib.hid (by rw [cls_name, show kws.contains s.toList = false from by simpa using hc]; simp)
    have hm : s.toList ∉ kws := by simpa using hc
    clear hc
    simp only [kws, List.mem_cons, List.not_mem_nil, or_false, not_or] at hm
    obtain ⟨h1, h2, h3, h4, h5, h6, h7, h8, h9, h10, h11, h12, h13, h14, h15, h16⟩ := hm
    have e1 := beq_eq_false_iff_ne.2 h1
    have e2 := beq_eq_false_iff_ne.2 h2
    have e3 := beq_eq_false_iff_ne.2 h3
    have e4 := beq_eq_false_iff_ne.2 h4
    have e5 := beq_eq_false_iff_ne.2 h5
    have e6 := beq_eq_false_iff_ne.2 h6
    have e7 := beq_eq_false_iff_ne.2 h7
    have e8 := beq_eq_false_iff_ne.2 h8
    have e9 := beq_eq_false_iff_ne.2 h9
    have e10 := beq_eq_false_iff_ne.2 h10
    have e11 := beq_eq_false_iff_ne.2 h11
    have e12 := beq_eq_false_iff_ne.2 h12
    have e13 := beq_eq_false_iff_ne.2 h13
    have e14 := beq_eq_false_iff_ne.2 h14
    have e15 := beq_eq_false_iff_ne.2 h15
    have e16 := beq_eq_false_iff_ne.2 h16
    clear h1 h2 h3 h4 h5 h6 h7 h8 h9 h10 h11 h12 h13 h14 h15 h16
    by_cases hk : k = 1
    · rw [decide_eq_true hk] at HN
      have q : ((k : Int) == 1) = true := by rw [beq_iff_eq]; omega
      clear hk
      go_enter Tryz.func119, Tryz.ntmps119
      go_wp2_with fail
      go_ret
      exact ⟨Go.Proofs.YtjgcjnkeeiaafaaGreatDoor.B.ret_bool HN.out.symm, hb⟩
    · rw [decide_eq_false hk] at HN
      have q : ((k : Int) == 1) = false := by rw [beq_eq_false_iff_ne]; omega
      clear hk
      go_enter Tryz.func119, Tryz.ntmps119
      go_wp2_with fail
      go_ret
      exact ⟨Go.Proofs.YtjgcjnkeeiaafaaGreatDoor.B.ret_bool HN.out.symm, hb⟩
theorem see_wrong (l : List B3) (x : Key) (k : Nat) : seeB l x (k, true) = false := by simp [seeB]
theorem see_end {T : List Tok} (x : Key) : seeB (T.map bare) x (T.length, false) = false := see_none (by simp) x
theorem see_tok {T : List Tok} {k : Nat} (hk : k < T.length) (x : Key) : seeB (T.map bare) x (k, false) = (cls (bare T[k]!) == x) :=
  see_at (by rw [List.getElem?_map, List.getElem?_eq_getElem hk, getElem!_pos T k hk]; rfl) x
theorem may_no {l : List B3} {x : Key} {s : RS} (h : seeB l x s = false) : mayS l x s = s := by unfold mayS; rw [h]; simp
theorem may_yes {l : List B3} {x : Key} {s : RS} (h : seeB l x s = true) : mayS l x s = (s.1 + 1, s.2) := by unfold mayS; rw [h]; simp
theorem see_lt {T : List Tok} {x : Key} {s : RS} (h : seeB (T.map bare) x s = true) : s.1 < T.length := by
  unfold seeB at h
  rcases Nat.lt_or_ge s.1 T.length with h' | h'
  · exact h'
  · rw [List.getElem?_eq_none (by simpa using h')] at h; simp at h
/-- The tokens of a statement lie in a world W0; the statement's box b is of later. -/
structure RD (W0 : World) (b : Nat) (A : Option Addr) (c : Nat) (T : List Tok) (s : RS) (x0 x1 x2 x3 : Value) (W : World) : Prop where
  f : W.heap[b]? = some (.cells #[.slice A T.length c, .int .i64 (s.1 : Int), .bool s.2, x0, x1, x2, x3] 85 (0, 0))
  l : Below W0.heap.size W0 W
  hb : W0.heap.size ≤ b
  le : s.1 ≤ T.length
section
variable {W0 W W1 : World} {b c : Nat} {A : Option Addr} {T : List Tok} {s : RS} {x0 x1 x2 x3 : Value}
theorem RD.lt (h : RD W0 b A c T s x0 x1 x2 x3 W) : b < W.heap.size := blk_lt h.f
theorem RD.call (h : RD W0 b A c T s x0 x1 x2 x3 W) (hb : Below W.heap.size W W1) : RD W0 b A c T s x0 x1 x2 x3 W1 := ⟨(hb.block _ h.lt).trans h.f, h.l.trans (hb.mono h.l.size), h.hb, h.le⟩
theorem RD.c0 (h : RD W0 b A c T s x0 x1 x2 x3 W) : W.cell? ⟨b, 0, none⟩ = some (.slice A T.length c) ∧ W.cell? ⟨b, 1, none⟩ = some (.int .i64 (s.1 : Int)) ∧ W.cell? ⟨b, 2, none⟩ = some (.bool s.2) := ⟨cell_blk h.f rfl, cell_blk h.f rfl, cell_blk h.f rfl⟩
theorem RD.c3 (h : RD W0 b A c T s x0 x1 x2 x3 W) : (W.cell? ⟨b, 3, none⟩ = some x0 ∧ W.cell? ⟨b, 4, none⟩ = some x1) ∧ W.cell? ⟨b, 5, none⟩ = some x2 ∧ W.cell? ⟨b, 6, none⟩ = some x3 := ⟨⟨cell_blk h.f rfl, cell_blk h.f rfl⟩, cell_blk h.f rfl, cell_blk h.f rfl⟩
theorem RD.fz (h : RD W0 b A c T s x0 x1 x2 x3 W) (i : Nat) : W.frozen? ⟨b, i, none⟩ = false := frozen_blk h.f
theorem RD.step (h : RD W0 b A c T s x0 x1 x2 x3 W) (hk : s.1 < T.length) : RD W0 b A c T (s.1 + 1, s.2) x0 x1 x2 x3 (W.setCell ⟨b, 1, none⟩ (.int .i64 ((s.1 : Int) + 1))) :=
  ⟨by rw [blk_set h.f]; simp, h.l.setCell h.hb _, h.hb, hk⟩
theorem RD.bad (h : RD W0 b A c T s x0 x1 x2 x3 W) (q : Bool) : RD W0 b A c T (s.1, q) x0 x1 x2 x3 (W.setCell ⟨b, 2, none⟩ (.bool q)) :=
  ⟨by rw [blk_set h.f]; simp, h.l.setCell h.hb _, h.hb, h.le⟩
end
theorem grown_set (W : World) (b i : Nat) (u : Value) : W.grownBy (W.setCell ⟨b, i, none⟩ u) (some b) := ⟨rfl, rfl, rfl, by simp, fun k _ hk => Below.heap_setCell _ _ _ _ (fun e => hk (by rw [e]))⟩
theorem grown_below {W W1 : World} (h : Below W.heap.size W W1) (row : Option Nat) : W.grownBy W1 row := ⟨h.os, h.tape, h.output, h.size, fun k hk _ => h.block k hk⟩
/-- What take hands back: the token, whether it fits. -/
def TkP (W0 : World) (b : Nat) (A : Option Addr) (c : Nat) (T : List Tok) (x : Key) (s : RS) (x0 x1 x2 x3 : Value) (W : World) (e : Ending) (w' : World) : Prop :=
  e = .returned (.tuple #[if seeB (T.map bare) x s then tokW T[s.1]! else tokZ, .bool (seeB (T.map bare) x s)]) ∧ RD W0 b A c T (mayS (T.map bare) x s) x0 x1 x2 x3 w' ∧ W.grownBy w' (some b)
theorem TkP.no {W0 : World} {b : Nat} {A : Option Addr} {c : Nat} {T : List Tok} {x : Key} {s : RS} {x0 x1 x2 x3 : Value} {W w' : World} (h : seeB (T.map bare) x s = false) (hr : RD W0 b A c T s x0 x1 x2 x3 w') (hg : W.grownBy w' (some b)) :
    TkP W0 b A c T x s x0 x1 x2 x3 W (.returned (.tuple #[tokZ, .bool false])) w' := by
  unfold TkP; rw [h, may_no h]; exact ⟨rfl, hr, hg⟩
theorem TkP.yes {W0 : World} {b : Nat} {A : Option Addr} {c : Nat} {T : List Tok} {x : Key} {s : RS} {x0 x1 x2 x3 : Value} {W w' : World} (h : seeB (T.map bare) x s = true) (hr : RD W0 b A c T (s.1 + 1, s.2) x0 x1 x2 x3 w') (hg : W.grownBy w' (some b)) :
    TkP W0 b A c T x s x0 x1 x2 x3 W (.returned (.tuple #[tokW T[s.1]!, .bool true])) w' := by
  unfold TkP; rw [h, may_yes h]; exact ⟨rfl, hr, hg⟩
theorem row_tok {W : World} {A : Option Addr} {T : List Tok} (h : Row W A (rowC T)) {k : Nat} (hk : k < T.length) : ∃ b off, A = some ⟨b, off, none⟩ ∧ b < W.heap.size ∧ W.cell? ⟨b, off + k * 4, none⟩ = some (.int .i64 T[k]!.kind) ∧ W.cell? ⟨b, off + k * 4 + 1, none⟩ = some (.string ⟨T[k]!.text.toArray⟩) ∧ W.cell? ⟨b, off + k * 4 + 2, none⟩ = some (.int .i64 T[k]!.val) ∧ W.cell? ⟨b, off + k * 4 + 3, none⟩ = some (.int .i64 T[k]!.loc) := by
  obtain ⟨b, off, h1, h2, h3⟩ := Row.at_ (enc := tokC) h (k := 4) (fun _ => rfl) (by omega) hk
  exact ⟨b, off, h1, h2, by have := h3 0 _ rfl; rwa [Nat.add_zero] at this, h3 1 _ rfl, h3 2 _ rfl, h3 3 _ rfl⟩
/-- Four cells of a block are written. -/
abbrev set4 (W : World) (q : Nat) (v0 v1 v2 v3 : Value) : World := (((W.setCell ⟨q, 0, none⟩ v0).setCell ⟨q, 1, none⟩ v1).setCell ⟨q, 2, none⟩ v2).setCell ⟨q, 3, none⟩ v3
theorem blk4 {W : World} {q : Nat} {c0 c1 c2 c3 : Value} {T : TypeId} (h : W.heap[q]? = some (.cells #[c0, c1, c2, c3] T (0, 0))) (v0 v1 v2 v3 : Value) : (set4 W q v0 v1 v2 v3).heap[q]? = some (.cells #[v0, v1, v2, v3] T (0, 0)) := by
  unfold set4
  rw [blk_set (blk_set (blk_set (blk_set h)))]; simp
theorem far_set4 {W : World} {q b : Nat} (hne : b ≠ q) (v0 v1 v2 v3 : Value) : (set4 W q v0 v1 v2 v3).heap[b]? = W.heap[b]? := by
  unfold set4
  rw [blk_other hne, blk_other hne, blk_other hne, blk_other hne]
theorem below_set4 {B : Nat} {W0 W : World} {q : Nat} (h : Below B W0 W) (hq : B ≤ q) (v0 v1 v2 v3 : Value) : Below B W0 (set4 W q v0 v1 v2 v3) := (((h.setCell (p := ⟨q, 0, none⟩) hq v0).setCell (p := ⟨q, 1, none⟩) hq v1).setCell (p := ⟨q, 2, none⟩) hq v2).setCell (p := ⟨q, 3, none⟩) hq v3
theorem grown_set4 {W W1 : World} {q b : Nat} (h : W.grownBy W1 (some b)) (hq : W.heap.size ≤ q) (v0 v1 v2 v3 : Value) : W.grownBy (set4 W1 q v0 v1 v2 v3) (some b) :=
  h.andThen ((((grown_set W1 q 0 v0).trans (grown_set _ q 1 v1)).trans (grown_set _ q 2 v2)).trans (grown_set _ q 3 v3)) (fun j hj => by cases hj; exact .inl hq)
theorem RD.far4 {W0 W : World} {b c : Nat} {A : Option Addr} {T : List Tok} {s : RS} {x0 x1 x2 x3 : Value} (h : RD W0 b A c T s x0 x1 x2 x3 W) {q : Nat} (hq : b ≠ q) (hq0 : W0.heap.size ≤ q) (v0 v1 v2 v3 : Value) : RD W0 b A c T s x0 x1 x2 x3 (set4 W q v0 v1 v2 v3) :=
  ⟨(far_set4 hq v0 v1 v2 v3).trans h.f, below_set4 h.l hq0 v0 v1 v2 v3, h.hb, h.le⟩
set_option maxRecDepth 100000 in
set_option maxHeartbeats 4000000 in
theorem take_any (W0 W : World) (b : Nat) (A : Option Addr) (c : Nat) (T : List Tok) (s : RS) (x0 x1 x2 x3 : Value) (hR : Row W0 A (rowC T)) (hT : T.length ≤ 1000000) (h : RD W0 b A c T s x0 x1 x2 x3 W) (x : Key) (fl : Nat) (lb : Array Value)
    (eg : ∀ args w, (callFunc fl args).run Tryz.prog w = .ok (.enter fl args) w)
    (hcall : ∀ (W1 : World) (k : Nat) (t : ByteArray) (v a : Nat), Below W.heap.size W W1 → Calls Tryz.prog fl (#[tkV k t v a] ++ lb) W1 fun e w' => e = .returned (.bool (cls (k, t.toList, v) == x)) ∧ Below W1.heap.size W1 w') :
    Calls Tryz.prog 94 #[.pointer (some ⟨b, 0, none⟩), .func (.func fl) #[] lb] W (TkP W0 b A c T x s x0 x1 x2 x3 W) := by
  have ll := h.lt
  obtain ⟨W1, hW1⟩ : ∃ W1, W1 = W.alloc (.cells #[.int .i64 0, .string ⟨#[]⟩, .int .i64 0, .int .i64 0] 54) := ⟨_, rfl⟩
  have hb1 : Below W.heap.size W W1 := by rw [hW1]; exact (Below.refl _ _).alloc (Nat.le_refl _) _
  have s1 : W1.heap.size = W.heap.size + 1 := by rw [hW1, World.size_alloc]
  have n1 : W1.heap[W.heap.size]? = some (.cells #[.int .i64 0, .string ⟨#[]⟩, .int .i64 0, .int .i64 0] 54 (0, 0)) := by rw [hW1]; exact heap_new _ _
  have H1 := h.call hb1
  have hd : Below (W.heap.size + 1) W1 W1.drew := below_draws (by rw [← s1]; exact Below.refl _ _) 1
  have hcc : ∀ y : WIn (Below (W.heap.size + 1) W1), Below W1.heap.size W1 y.w := fun y => by rw [s1]; exact y.h
  have g0 : ∀ y : WIn (Below (W.heap.size + 1) W1), y.w.cell? ⟨b, 0, none⟩ = some (.slice A T.length c) := fun y => (H1.call (hcc y)).c0.1
  have g1 : ∀ y : WIn (Below (W.heap.size + 1) W1), y.w.cell? ⟨b, 1, none⟩ = some (.int .i64 (s.1 : Int)) := fun y => (H1.call (hcc y)).c0.2.1
  have g2 : ∀ y : WIn (Below (W.heap.size + 1) W1), y.w.cell? ⟨b, 2, none⟩ = some (.bool s.2) := fun y => (H1.call (hcc y)).c0.2.2
  haveI : Nonempty (WIn (Below (W.heap.size + 1) W1)) := ⟨⟨_, hd⟩⟩
  have HB := Lib.hid hb1
  have N1 := Lib.hid n1
  have S1 := Lib.hid s1
  have H := Lib.hid H1
  have HC := Lib.hid hcall
  have HL := Lib.hid h.l.size
  have HE : Hid (∀ wq, Below (W.heap.size + 1) W1 wq → wq.heap[W.heap.size]? = some (.cells #[.int .i64 0, .string ⟨#[]⟩, .int .i64 0, .int .i64 0] 54 (0, 0)) ∧ RD W0 b A c T s x0 x1 x2 x3 wq ∧ W.grownBy wq (some b)) :=
    Lib.hid (fun wq hwq => ⟨(hwq.block _ (by omega)).trans n1, H1.call (by rw [s1]; exact hwq), grown_below (hb1.trans (hwq.mono (by omega))) _⟩)
  -- the result's box is written, and told
  have HZ : Hid (∀ w2, w2.heap[W.heap.size]? = some (.cells #[.int .i64 0, .string ⟨#[]⟩, .int .i64 0, .int .i64 0] 54 (0, 0)) → (set4 w2 W.heap.size (.int .i64 0) (.string ⟨#[]⟩) (.int .i64 0) (.int .i64 0)).heap[W.heap.size]? = some (.cells #[.int .i64 0, .string ⟨#[]⟩, .int .i64 0, .int .i64 0] 54 (0, 0))) := Lib.hid (fun w2 e => blk4 e _ _ _ _)
  clear hcall h H1 hb1 n1 hcc
  obtain ⟨k, q⟩ := s
  simp only at g1 g2
  have HNO : Hid (∀ w2, seeB (T.map bare) x (k, q) = false → RD W0 b A c T (k, q) x0 x1 x2 x3 w2 → W.grownBy w2 (some b) → TkP W0 b A c T x (k, q) x0 x1 x2 x3 W (.returned (.tuple #[tokZ, .bool false])) (set4 w2 W.heap.size (.int .i64 0) (.string ⟨#[]⟩) (.int .i64 0) (.int .i64 0))) :=
    Lib.hid (fun w2 hs hr hg => TkP.no hs (hr.far4 (by omega) HL.out _ _ _ _) (grown_set4 hg (Nat.le_refl _) _ _ _ _))
  cases q with
  | true =>
    have HS := Lib.hid (see_wrong (T.map bare) x k)
    clear H HC N1 HB S1
    subst hW1
    go_enter Tryz.func94, Tryz.ntmps94
    go_wp2_with fail
    refine wp_region_class _ (by kernel_rfl) (by kernel_rfl) hd ?_
    repeat (go_big_quiet_step (fail))
    refine wpQuiet_nil ?_
    rintro w2 ⟨⟨wq, hwq⟩, rfl⟩
    obtain ⟨e1, e2, e3⟩ := HE.out w2 hwq
    have z0 := cell_blk (i := 0) e1 rfl
    have z1 := cell_blk (i := 1) e1 rfl
    have z2 := cell_blk (i := 2) e1 rfl
    have z3 := cell_blk (i := 3) e1 rfl
    have y0 := frozen_blk (i := 0) e1
    have y1 := frozen_blk (i := 1) e1
    have y2 := frozen_blk (i := 2) e1
    have y3 := frozen_blk (i := 3) e1
    have hlz := blk_lt e1
    have E1 := Lib.hid (HZ.out w2 e1)
    have FN := Lib.hid (HNO.out w2 HS.out e2 e3)
    clear e1 e2 e3 HE HZ HNO g0 g1 g2
    go_wp2_with fail
    have z0 := cell_blk (i := 0) E1.out rfl
    have z1 := cell_blk (i := 1) E1.out rfl
    have z2 := cell_blk (i := 2) E1.out rfl
    have z3 := cell_blk (i := 3) E1.out rfl
    exact bodyPost_ret (v := .tuple #[tokZ, .bool false]) (by simp [results, Tryz.results94, go_sem, z0, z1, z2, z3]) rfl FN.out
  | false =>
    have hle : k ≤ T.length := H.out.le
    by_cases hk : k = T.length
    · subst hk
      have HS := Lib.hid (see_end (T := T) x)
      clear H HC N1 HB S1
      subst hW1
      go_enter Tryz.func94, Tryz.ntmps94
      go_wp2_with fail
      refine wp_region_class _ (by kernel_rfl) (by kernel_rfl) hd ?_
      repeat (go_big_quiet_step (fail))
      refine wpQuiet_nil ?_
      rintro w2 ⟨⟨wq, hwq⟩, rfl⟩
      obtain ⟨e1, e2, e3⟩ := HE.out w2 hwq
      have z0 := cell_blk (i := 0) e1 rfl
      have z1 := cell_blk (i := 1) e1 rfl
      have z2 := cell_blk (i := 2) e1 rfl
      have z3 := cell_blk (i := 3) e1 rfl
      have y0 := frozen_blk (i := 0) e1
      have y1 := frozen_blk (i := 1) e1
      have y2 := frozen_blk (i := 2) e1
      have y3 := frozen_blk (i := 3) e1
      have hlz := blk_lt e1
      have E1 := Lib.hid (HZ.out w2 e1)
      have FN := Lib.hid (HNO.out w2 HS.out e2 e3)
      clear e1 e2 e3 HE HZ HNO g0 g1 g2
      go_wp2_with fail
      have z0 := cell_blk (i := 0) E1.out rfl
      have z1 := cell_blk (i := 1) E1.out rfl
      have z2 := cell_blk (i := 2) E1.out rfl
      have z3 := cell_blk (i := 3) E1.out rfl
      exact bodyPost_ret (v := .tuple #[tokZ, .bool false]) (by simp [results, Tryz.results94, go_sem, z0, z1, z2, z3]) rfl FN.out
    · have hlt : k < T.length := by omega
      have hk0 : (0 : Int) ≤ (k : Int) := Int.natCast_nonneg _
      have hk1 : (k : Int) < (T.length : Int) := by omega
      have hk2 : ((k : Int) == (T.length : Int)) = false := by rw [beq_eq_false_iff_ne]; omega
      obtain ⟨bt, off, rfl, hbt, k0, k1, k2, k3⟩ := row_tok hR hlt
      have HS0 := Lib.hid (see_tok hlt x)
      obtain ⟨t, ht⟩ : ∃ t, t = T[k]! := ⟨_, rfl⟩
      rw [← ht] at k0 k1 k2 k3 HS0
      have HT := Lib.hid ht
      have hcl : ∀ y : WIn (Below (W.heap.size + 1) W1), Below W0.heap.size W0 y.w := fun y => H.out.l.trans (y.h.mono (by have := HL.out; omega))
      have f0 : ∀ y : WIn (Below (W.heap.size + 1) W1), y.w.cell? ⟨bt, off + k * 4, none⟩ = some (.int .i64 t.kind) := fun y => ((hcl y).cell (p := ⟨bt, _, none⟩) hbt).trans k0
      have f1 : ∀ y : WIn (Below (W.heap.size + 1) W1), y.w.cell? ⟨bt, off + k * 4 + 1, none⟩ = some (.string ⟨t.text.toArray⟩) := fun y => ((hcl y).cell (p := ⟨bt, _, none⟩) hbt).trans k1
      have f2 : ∀ y : WIn (Below (W.heap.size + 1) W1), y.w.cell? ⟨bt, off + k * 4 + 2, none⟩ = some (.int .i64 t.val) := fun y => ((hcl y).cell (p := ⟨bt, _, none⟩) hbt).trans k2
      have f3 : ∀ y : WIn (Below (W.heap.size + 1) W1), y.w.cell? ⟨bt, off + k * 4 + 3, none⟩ = some (.int .i64 t.loc) := fun y => ((hcl y).cell (p := ⟨bt, _, none⟩) hbt).trans k3
      have EN := class_call (CC := Below (W.heap.size + 1) W1) (fun _ _ h hb => h.trans (hb.mono (by have := h.size; have := S1.out; omega))) (fun W2 h2 => HC.out W2 t.kind ⟨t.text.toArray⟩ t.val t.loc (HB.out.trans (h2.mono (by omega))))
      rw [txt_list] at EN
      clear ht hk HC
      cases hq : seeB (T.map bare) x (k, false) with
      | false =>
        have hq2 : (cls (t.kind, t.text, t.val) == x) = false := HS0.out.symm.trans hq
        rw [hq2] at EN
        have HS := Lib.hid hq
        clear hq hq2 HS0 H N1 HB S1 k0 k1 k2 k3 hcl
        subst hW1
        go_enter Tryz.func94, Tryz.ntmps94
        go_wp2_with fail
        refine wp_region_class _ (by kernel_rfl) (by kernel_rfl) hd ?_
        repeat (go_big_quiet_step (exact EN _))
        refine wpQuiet_nil ?_
        rintro w2 ⟨⟨wq, hwq⟩, rfl⟩
        obtain ⟨e1, e2, e3⟩ := HE.out w2 hwq
        have z0 := cell_blk (i := 0) e1 rfl
        have z1 := cell_blk (i := 1) e1 rfl
        have z2 := cell_blk (i := 2) e1 rfl
        have z3 := cell_blk (i := 3) e1 rfl
        have y0 := frozen_blk (i := 0) e1
        have y1 := frozen_blk (i := 1) e1
        have y2 := frozen_blk (i := 2) e1
        have y3 := frozen_blk (i := 3) e1
        have hlz := blk_lt e1
        have E1 := Lib.hid (HZ.out w2 e1)
        have FN := Lib.hid (HNO.out w2 HS.out e2 e3)
        clear e1 e2 e3 HE HZ HNO g0 g1 g2 f0 f1 f2 f3 EN
        go_wp2_with fail
        have z0 := cell_blk (i := 0) E1.out rfl
        have z1 := cell_blk (i := 1) E1.out rfl
        have z2 := cell_blk (i := 2) E1.out rfl
        have z3 := cell_blk (i := 3) E1.out rfl
        exact bodyPost_ret (v := .tuple #[tokZ, .bool false]) (by simp [results, Tryz.results94, go_sem, z0, z1, z2, z3]) rfl FN.out
      | true =>
        have hq2 : (cls (t.kind, t.text, t.val) == x) = true := HS0.out.symm.trans hq
        rw [hq2] at EN
        have HS := Lib.hid hq
        have HCL := Lib.hid hcl
        clear hq hq2 HS0 N1 HB hcl
        have K0 := Lib.hid k0
        have K1 := Lib.hid k1
        have K2 := Lib.hid k2
        have K3 := Lib.hid k3
        clear k0 k1 k2 k3
        subst hW1
        go_enter Tryz.func94, Tryz.ntmps94
        go_wp2_with fail
        refine wp_region_class _ (by kernel_rfl) (by kernel_rfl) hd ?_
        repeat (go_big_quiet_step (exact EN _))
        refine wpQuiet_nil ?_
        rintro w2 ⟨⟨wq, hwq⟩, rfl⟩
        obtain ⟨e1, e2, e3⟩ := HE.out w2 hwq
        have z0 := cell_blk (i := 0) e1 rfl
        have z1 := cell_blk (i := 1) e1 rfl
        have z2 := cell_blk (i := 2) e1 rfl
        have z3 := cell_blk (i := 3) e1 rfl
        have y0 := frozen_blk (i := 0) e1
        have y1 := frozen_blk (i := 1) e1
        have y2 := frozen_blk (i := 2) e1
        have y3 := frozen_blk (i := 3) e1
        have hlz := blk_lt e1
        have hl2 := e2.l
        have k0 := (hl2.cell (p := ⟨bt, _, none⟩) hbt).trans K0.out
        have k1 := (hl2.cell (p := ⟨bt, _, none⟩) hbt).trans K1.out
        have k2 := (hl2.cell (p := ⟨bt, _, none⟩) hbt).trans K2.out
        have k3 := (hl2.cell (p := ⟨bt, _, none⟩) hbt).trans K3.out
        obtain ⟨c0, c1, c2⟩ := e2.c0
        have ll2 := e2.lt
        have hbt2 : bt < w2.heap.size := by have := hl2.size; omega
        have fz := e2.fz 1
        have hne : ¬ b = W.heap.size := by omega
        have hne2 : ¬ W.heap.size = b := by omega
        have E1 := Lib.hid e1
        have E2 := Lib.hid e2
        have E3 := Lib.hid e3
        clear e1 e2 e3 HE HZ HNO g0 g1 g2 f0 f1 f2 f3 EN hl2 K0 K1 K2 K3 HCL H hd hwq
        go_wp2_with fail
        go_region
        go_wp2_with fail
        have e1 : (w2.setCell ⟨b, 1, none⟩ (.int .i64 ((k : Int) + 1))).heap[W.heap.size]? = some (.cells #[.int .i64 0, .string ⟨#[]⟩, .int .i64 0, .int .i64 0] 54 (0, 0)) := (blk_other (fun e => hne e.symm)).trans E1.out
        have e4 := blk4 e1 (.int .i64 t.kind) (.string ⟨t.text.toArray⟩) (.int .i64 t.val) (.int .i64 t.loc)
        have r4 := (E2.out.step hlt).far4 hne HL.out (.int .i64 t.kind) (.string ⟨t.text.toArray⟩) (.int .i64 t.val) (.int .i64 t.loc)
        have g4 := grown_set4 (E3.out.trans (grown_set w2 b 1 (.int .i64 ((k : Int) + 1)))) (Nat.le_refl _) (.int .i64 t.kind) (.string ⟨t.text.toArray⟩) (.int .i64 t.val) (.int .i64 t.loc)
        simp only at r4
        obtain ⟨w5, hw5⟩ : ∃ w5, w5 = set4 (w2.setCell ⟨b, 1, none⟩ (.int .i64 ((k : Int) + 1))) W.heap.size (.int .i64 t.kind) (.string ⟨t.text.toArray⟩) (.int .i64 t.val) (.int .i64 t.loc) := ⟨_, rfl⟩
        rw [← hw5] at e4 r4 g4
        unfold set4 at hw5
        rw [← hw5]
        clear hw5 E1 E2 E3 k0 k1 k2 k3 c0 c1 c2 z0 z1 z2 z3 y0 y1 y2 y3 e1
        have hal : Below w5.heap.size w5 ((w5.alloc (.cells #[.int .i64 t.kind, .string ⟨t.text.toArray⟩, .int .i64 t.val, .int .i64 t.loc] 54)).drew) := below_draws ((Below.refl _ _).alloc (Nat.le_refl _) _) 1
        have e6 := (hal.block _ (blk_lt e4)).trans e4
        have z0 := cell_blk (i := 0) e6 rfl
        have z1 := cell_blk (i := 1) e6 rfl
        have z2 := cell_blk (i := 2) e6 rfl
        have z3 := cell_blk (i := 3) e6 rfl
        have FN : TkP W0 b (some ⟨bt, off, none⟩) c T x (k, false) x0 x1 x2 x3 W (.returned (.tuple #[tokW T[k]!, .bool true])) ((w5.alloc (.cells #[.int .i64 t.kind, .string ⟨t.text.toArray⟩, .int .i64 t.val, .int .i64 t.loc] 54)).drew) :=
          TkP.yes HS.out (r4.call hal) (g4.trans (grown_below hal _))
        rw [← HT.out] at FN
        exact bodyPost_ret (v := .tuple #[tokW t, .bool true]) (by simp [results, Tryz.results94, go_sem, z0, z1, z2, z3]) rfl FN
end Go.Proofs.YtjgcjnkeeiaafaaGreatDoor.P3.C
