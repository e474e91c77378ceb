/-
  Contract of lex.Lex: the tokens of any text, up to some size, or where it has none. What lex.Join makes of tokens, as a function on lists; no program. The plain model of layer 3's Print: the words of each part, the tokens of a line, the text of a graph; no program. What a graph that may be is, plainly: its names are names, its kinds, times and ages lie in their ranges, its parts are few.
-/
import Derived.Test.YtigbceankmfaeaaGreatDoorTaab
import Derived.Test.YtigbceankmfaeaaGreatDoorTaaa
namespace Go.Proofs.YtigbceankmfaeaaGreatDoor.Lx
open Go.RowKit
def tokC (t : Tok) : List Value := [.int .i64 t.kind, .string ⟨t.text.toArray⟩, .int .i64 t.val, .int .i64 t.loc]
def rowC (l : List Tok) : List Value := l.flatMap tokC
theorem rowC_length (l : List Tok) : (rowC l).length = l.length * 4 := by
  induction l with
  | nil => rfl
  | cons t r ih => simp only [rowC, List.flatMap_cons, List.length_append, List.length_cons] at ih ⊢; rw [ih]; simp [tokC]; omega
theorem rowC_snoc (l : List Tok) (t : Tok) : rowC (l ++ [t]) = rowC l ++ tokC t := by simp [rowC]
theorem infoTok : (Tryz.prog.info? 73).map (fun i => (i.zero, i.size, i.bytes)) = some (some (.agg #[.int .i64 0, .string ⟨#[]⟩, .int .i64 0, .int .i64 0]), 4, 40) := by kernel_rfl
/-- What Lex hands back. -/
def LexOf (r : List Tok × Nat × Nat) (w : World) (e : Ending) (w' : World) : Prop :=
  ∃ v : Value, e = .returned (.tuple #[v, .int .i64 r.2.1, .int .i64 r.2.2]) ∧ w'.ownsRow w.heap.size 73 4 v r.1.length (rowC r.1) ∧ Below w.heap.size w w'
def LexRel (s : ByteArray) (w : World) (v i e : Value) (wr : World) : Prop :=
  ∃ (k : Nat) (l : List Tok), k ≤ s.size ∧ i = .int .i64 k ∧ e = .int .i64 0 ∧ wr.ownsRow w.heap.size 73 4 v l.length (rowC l) ∧ Below w.heap.size w wr ∧ l.length ≤ 5000 ∧ Hid (lexS (s.data.toList.drop k) 0 k l = lexL s.data.toList)
theorem lexOf_err {s : ByteArray} {w w' : World} {k c : Nat} (h : lexL s.data.toList = ([], k, c)) (hb : Below w.heap.size w w') : LexOf (lexL s.data.toList) w (.returned (.tuple #[.slice none 0 0, .int .i64 k, .int .i64 c])) w' := by
  rw [h]; exact ⟨_, rfl, World.ownsRow_nil _ _ _ _, hb⟩
theorem lexOf_ok {s : ByteArray} {w w' : World} {l : List Tok} {v : Value} (h : lexL s.data.toList = (l, 0, 0)) (hown : w'.ownsRow w.heap.size 73 4 v l.length (rowC l)) (hb : Below w.heap.size w w') :
    LexOf (lexL s.data.toList) w (.returned (.tuple #[v, .int .i64 0, .int .i64 0])) w' := by
  rw [h]; exact ⟨_, rfl, hown, hb⟩
theorem own_slice {w : World} {B e z n : Nat} {v : Value} {xs : List Value} (h : w.ownsRow B e z v n xs) : ∃ ao cap, v = .slice ao n cap := by
  rcases h.2 with ⟨hv, h0⟩ | ⟨g, cap, cur, hv, _⟩
  · exact ⟨none, 0, by rw [hv, h0]⟩
  · exact ⟨_, _, hv⟩
theorem own_below {w w1 : World} {B e z n : Nat} {v : Value} {xs : List Value} (h : w.ownsRow B e z v n xs) (hb : Below w.heap.size w w1) : w1.ownsRow B e z v n xs :=
  h.kept (row := none) ⟨hb.os, hb.tape, hb.output, hb.size, fun k hk _ => hb.block k hk⟩ (by cases hv : v.ownBlock <;> simp)
theorem own_apart {w : World} {B e z n : Nat} {v : Value} {xs : List Value} (h : w.ownsRow B e z v n xs) {k : Nat} (hk : w.heap.size ≤ k) : some k ≠ v.ownBlock := by
  intro e; have := (h.lt k e.symm).2; omega
/-- Behind the append of a token: what its own block holds, and that all below is as it was. -/
theorem lex_behind {w wr w1 w2 : World} {o1 o2 : Obj} {e z n c : Nat} {v u : Value} {xs : List Value} (hb : Below w.heap.size w wr) (hb1 : Below wr.heap.size wr w1) (hown : wr.ownsRow w.heap.size e z v n xs) (hg : ((w1.alloc o1).alloc o2).grownBy w2 v.ownBlock)
    (hc : (w1.alloc o1).cell? ⟨w1.heap.size, c, none⟩ = some u) : w2.cell? ⟨w1.heap.size, c, none⟩ = some u ∧ Below w.heap.size w w2 := by
  have z1 := hb.size
  have z2 := hb1.size
  refine ⟨hg.cell ((World.cell?_alloc_lt _ _ _ (by simp)).trans hc) (own_apart (own_below hown hb1) (Nat.le_refl _)), ?_⟩
  exact (((hb.trans (hb1.mono z1)).alloc (by omega) _).alloc (by simp; omega) _).grown hg (by simp; omega) fun k hk => (hown.lt k hk).1
set_option maxHeartbeats 1000000 in
theorem lex_any (s : ByteArray) (w : World) (hs : s.size ≤ 140737488351232) : Calls Tryz.prog 15 #[.string s] w (LexOf (lexL s.data.toList) w) := by
  obtain ⟨i0, hi, hz0, hz1, hz2⟩ := info_parts infoTok
  have HI := Lib.hid hi
  have HZ0 := Lib.hid hz0
  have HZ1 := Lib.hid hz1
  have HZ2 := Lib.hid hz2
  clear hi hz0 hz1 hz2
  go_enter Tryz.func15, Tryz.ntmps15
  go_wp2
  go_step3
  go_wp2
  go_step3
  go_wp2
  go_loopw [5, 6, 7] (fun v i e wr => LexRel s w v i e wr) (fun _ i _ _ => s.size - (intOf i).toNat)
  case atStart => exact ⟨0, [], Nat.zero_le _, rfl, rfl, World.ownsRow_nil _ _ _ _, Below.refl _ _, by simp, rfl⟩
  case round =>
    obtain ⟨k, l, hk, rfl, rfl, hown, hbel, hl, HR⟩ := hrel
    by_cases hlt : k < s.size
    · cases hg : gapB s[k] with
      | true =>
        have HR' : Hid (lexS (s.data.toList.drop (k + 1)) 0 (k + 1) l = lexL s.data.toList) := by rw [← HR.out, lex_gap (by simpa using hlt) hg]; exact rfl
        have C17 : Hid (∀ W, Calls Tryz.prog 34 #[.int .u8 s[k].toNat] W fun e w' => e = .returned (.bool true) ∧ W = w') := fun W => by rw [← hg]; exact isGap_any _ W
        clear HR hg
        go_wp2_with (first
          | (go_at_call 34; refine (C17.out _).mono ?_; rintro e w' ⟨rfl, rfl⟩))
        go_roundw
        case rel => exact ⟨k + 1, l, hlt, by go_num, rfl, hown, hbel, hl, HR'⟩
        case measure => simp [intOf]; omega
      | false =>
        have C17 : Hid (∀ W, Calls Tryz.prog 34 #[.int .u8 s[k].toNat] W fun e w' => e = .returned (.bool false) ∧ W = w') := fun W => by rw [← hg]; exact isGap_any _ W
        have HG := Lib.hid hg
        clear hg
        cases ht : takeL (s.data.toList.drop k) k with
        | none =>
          have C18 : Hid (∀ W, Calls Tryz.prog 35 #[.string s, .int .i64 k] W fun e w' => e = .returned (.tuple #[.agg #[.int .i64 0, .string ⟨#[]⟩, .int .i64 0, .int .i64 0], .bool false]) ∧ Below W.heap.size W w') := fun W => (take_any s k W hlt hs).mono fun e w' h => by unfold TakeOf at h; rw [ht] at h; exact h
          have HF : Hid (lexL s.data.toList = ([], k, 2)) := by rw [← HR.out]; exact lex_form (by simpa using hlt) HG.out ht
          clear ht HR
          go_wp2_with (first
            | (go_at_call 34; refine (C17.out _).mono ?_; rintro e w' ⟨rfl, rfl⟩)
            | (go_at_call 35; refine (C18.out _).mono ?_; rintro e w1 ⟨rfl, hb1⟩))
          rw [Exit.noGoto_ret]
          go_ret3
          exact lexOf_err HF.out ((hbel.trans (hb1.mono hbel.size)).alloc (by have := hbel.size; have := hb1.size; omega) _)
        | some t =>
          obtain ⟨t1, t2⟩ := takeL_len ht
          rw [List.length_drop, bytes_len] at t2
          have C18 : Hid (∀ W, Calls Tryz.prog 35 #[.string s, .int .i64 k] W fun e w' => e = .returned (.tuple #[.agg #[.int .i64 t.kind, .string ⟨t.text.toArray⟩, .int .i64 t.val, .int .i64 t.loc], .bool true]) ∧ Below W.heap.size W w') := fun W => (take_any s k W hlt hs).mono fun e w' h => by unfold TakeOf at h; rw [ht] at h; exact h
          by_cases h5 : l.length = 5000
          · have HF : Hid (lexL s.data.toList = ([], k, 4)) := by rw [← HR.out]; exact lex_many (by simpa using hlt) HG.out ht h5
            obtain ⟨ao, cap, rfl⟩ := own_slice hown
            have h5' : ((l.length : Int) == 5000) = true := by rw [beq_iff_eq]; omega
            clear ht HR hown h5 hl
            go_wp2_with (first
              | (go_at_call 34; refine (C17.out _).mono ?_; rintro e w' ⟨rfl, rfl⟩)
              | (go_at_call 35; refine (C18.out _).mono ?_; rintro e w1 ⟨rfl, hb1⟩))
            rw [Exit.noGoto_ret]
            go_ret3
            exact lexOf_err HF.out ((hbel.trans (hb1.mono hbel.size)).alloc (by have := hbel.size; have := hb1.size; omega) _)
          · have HR' : Hid (lexS (s.data.toList.drop (k + t.text.length)) 0 (k + t.text.length) (l ++ [t]) = lexL s.data.toList) := by rw [← HR.out]; exact (lex_tok (by simpa using hlt) HG.out ht h5).symm
            have h5' : ((l.length : Int) == 5000) = false := by rw [beq_eq_false_iff_ne]; omega
            have hl' : l.length + 1 ≤ 5000 := by omega
            obtain ⟨ao, cap, rfl⟩ := own_slice hown
            have HO := Lib.hid hown
            clear ht HR h5 hl hown
            go_wp2_with (first
              | (go_at_call 34; refine (C17.out _).mono ?_; rintro e w' ⟨rfl, rfl⟩)
              | (go_at_call 35; refine (C18.out _).mono ?_; rintro e w1 ⟨rfl, hb1⟩)
              | (at_builtin; refine wpList_append_own _ rfl (.tmp 33) (.tmp 35) 37 rfl w.heap.size 73 i0 _ 4 40 Tryz.underlying37 HI.out HZ0.out HZ1.out HZ2.out rfl (by omega) _ _ _ rfl (((own_below HO.out hb1).alloc _).alloc _) ⟨w1.heap.size + 1, 0, none⟩ 1 1 (tokC t) rfl rfl ?c1 ?c2 ?c3 ?c4 ?c5 ?_))
            case c1 =>
              intro j u hj
              match j, hj with
              | 0, hj => simp [tokC] at hj; subst hj; simp [Addr.add]
              | 1, hj => simp [tokC] at hj; subst hj; simp [Addr.add]
              | 2, hj => simp [tokC] at hj; subst hj; simp [Addr.add]
              | 3, hj => simp [tokC] at hj; subst hj; simp [Addr.add]
              | n + 4, hj => simp [tokC] at hj
            case c2 => intro u hu; simp [tokC] at hu; rcases hu with rfl | rfl | rfl | rfl <;> rfl
            case c3 => unfold maxLen; omega
            case c4 => omega
            case c5 => have := hbel.size; have := hb1.size; simp; omega
            intro v' w2 hown' hgrow _
            obtain ⟨hc, hb2⟩ := lex_behind (c := 1) hbel hb1 HO.out hgrow (by simp; rfl)
            rw [← rowC_snoc] at hown'
            have HO' : Hid (w2.ownsRow w.heap.size 73 4 v' (l ++ [t]).length (rowC (l ++ [t]))) := by rw [List.length_append]; exact hown'
            clear hown' hgrow
            go_wp2
            go_roundw
            case rel => exact ⟨k + t.text.length, l ++ [t], by omega, by go_num, rfl, HO'.out, hb2, by simpa using hl', HR'⟩
            case measure => simp [intOf]; omega
    · have HF : Hid (lexL s.data.toList = (l, 0, 0)) := by rw [← HR.out]; exact lex_end (by rw [bytes_len]; omega)
      clear HR
      go_wp2_with fail
      rw [Exit.noGoto_ret]
      go_ret3
      exact lexOf_ok HF.out hown hbel
end Go.Proofs.YtigbceankmfaeaaGreatDoor.Lx

namespace Go.Proofs.YtigbceankmfaeaaGreatDoor
def joinS : Bool → List Tok → List UInt8
  | _, [] => []
  | p, t :: r => (if !p && !(t.text == [59]) then [32] else []) ++ (t.text ++ ((if t.text == [59] then [10] else []) ++ joinS (t.text == [59]) r))
theorem join_drop {l : List Tok} {k : Nat} {t : Tok} (p : Bool) (h : l[k]? = some t) : joinS p (l.drop k) = (if !p && !(t.text == [59]) then [32] else []) ++ (t.text ++ ((if t.text == [59] then [10] else []) ++ joinS (t.text == [59]) (l.drop (k + 1)))) := by
  obtain ⟨hk, rfl⟩ := List.getElem?_eq_some_iff.1 h
  rw [List.drop_eq_getElem_cons hk, joinS]
/-- Where a list of tokens is parted: the parts' beginnings and ends, and where what is left begins. -/
def segS : List Tok → Nat → Nat → List (Nat × Nat) × Nat
  | [], _, st => ([], st)
  | t :: r, k, st => if t.kind = 3 then ((st, k) :: (segS r (k + 1) (k + 1)).1, (segS r (k + 1) (k + 1)).2) else segS r (k + 1) st
theorem seg_sign {l : List Tok} {k st : Nat} {t : Tok} (h : l[k]? = some t) (hk : t.kind = 3) : segS (l.drop k) k st = ((st, k) :: (segS (l.drop (k + 1)) (k + 1) (k + 1)).1, (segS (l.drop (k + 1)) (k + 1) (k + 1)).2) := by
  obtain ⟨hk', rfl⟩ := List.getElem?_eq_some_iff.1 h
  rw [List.drop_eq_getElem_cons hk', segS, if_pos hk]
theorem seg_other {l : List Tok} {k st : Nat} {t : Tok} (h : l[k]? = some t) (hk : ¬ t.kind = 3) : segS (l.drop k) k st = segS (l.drop (k + 1)) (k + 1) st := by
  obtain ⟨hk', rfl⟩ := List.getElem?_eq_some_iff.1 h
  rw [List.drop_eq_getElem_cons hk', segS, if_neg hk]
theorem seg_end {l : List Tok} {k st : Nat} (hk : l.length ≤ k) : segS (l.drop k) k st = ([], st) := by rw [List.drop_eq_nil_of_le hk, segS]
end Go.Proofs.YtigbceankmfaeaaGreatDoor

namespace Go.Proofs.YtigbceankmfaeaaGreatDoor.P3
/-- A number's digits, as the document has them. -/
def digL (n : Nat) : List UInt8 := if h : n < 10 then [UInt8.ofNat (48 + n)] else digL (n / 10) ++ [UInt8.ofNat (48 + n % 10)]
termination_by n
def kwB (k : Int) : List UInt8 :=
  if k = 1 then [99, 111, 110, 100, 105, 116, 105, 111, 110] else if k = 2 then [114, 101, 115, 112, 111, 110, 115, 101] else
  if k = 3 then [105, 110, 99, 108, 117, 100, 101] else if k = 4 then [101, 120, 99, 108, 117, 100, 101] else [109, 105, 108, 101, 115, 116, 111, 110, 101]
def untB (k : Int) : Int := if k = 2 then 1048576 else 0
/-- A word and a name behind some words, where there is a name. -/
def optB (l : List (List UInt8)) (word name : List UInt8) : List (List UInt8) := if name = [] then l else l ++ [word, name]
def gpW (p : Gp) : List (List UInt8) := optB [[103, 114, 111, 117, 112], p.name.toList] [105, 110] p.parent.toList
def dueW (d : Int) : List (List UInt8) := if d = -1 then [] else if d = 1048576 then [[112, 101, 110, 100, 105, 110, 103]] else [[100, 117, 101], digL d.toNat]
def evW (v : Ev) : List (List UInt8) :=
  optB [[101, 118, 101, 110, 116], v.name.toList] [105, 110] v.group.toList ++ [[114, 111, 108, 101], v.role.toList] ++ (if v.inn then [] else [[101, 120, 99, 108, 117, 100, 101, 100]]) ++ (if v.done then [[100, 111, 110, 101]] else []) ++ dueW v.due
def rlW (r : Rl) : List (List UInt8) := [kwB r.kind, r.src.toList, r.dst.toList] ++ (if r.time = untB r.kind then [] else [digL r.time.toNat])
def usW (u : Us) : List (List UInt8) := optB ([[117, 115, 101, 114], u.name.toList, [114, 111, 108, 101, 115]] ++ u.roles.map ByteArray.toList) [115, 117, 98] u.sub.toList
/-- A line's tokens: its words, its sign. -/
def lineT (ws : List (List UInt8)) : List Tok := ws.map (fun x => ⟨0, x, 0, 0⟩) ++ [⟨0, [59], 0, 0⟩]
/-- A line's text. -/
def lineB : List (List UInt8) → List UInt8
  | [] => [59, 10]
  | x :: r => x ++ (r.flatMap (fun y => 32 :: y) ++ [59, 10])
def linesW (g : Gr) : List (List (List UInt8)) := g.gs.map gpW ++ (g.es.map evW ++ (g.rs.map rlW ++ g.us.map usW))
def printT (g : Gr) : List Tok := (linesW g).flatMap lineT
def printB (g : Gr) : List UInt8 := (linesW g).flatMap lineB
theorem join_words : ∀ (ws : List (List UInt8)) (rest : List Tok), (∀ x ∈ ws, x ≠ [59]) → joinS false (ws.map (fun x => (⟨0, x, 0, 0⟩ : Tok)) ++ ((⟨0, [59], 0, 0⟩ : Tok) :: rest)) = ws.flatMap (fun y => 32 :: y) ++ ([59, 10] ++ joinS true rest)
  | [], rest, _ => by simp [joinS]
  | x :: r, rest, h => by
    have hx : (x == [59]) = false := beq_eq_false_iff_ne.2 (h x (List.mem_cons_self ..))
    have ih := join_words r rest (fun y hy => h y (List.mem_cons_of_mem _ hy))
    rw [List.map_cons, List.cons_append, joinS]
    simp only [hx]
    rw [ih]
    simp
theorem join_line (ws : List (List UInt8)) (rest : List Tok) (h : ∀ x ∈ ws, x ≠ [59]) : joinS true (lineT ws ++ rest) = lineB ws ++ joinS true rest := by
  unfold lineT
  rw [List.append_assoc, List.singleton_append]
  cases ws with
  | nil => simp [joinS, lineB]
  | cons x r =>
    have hx : (x == [59]) = false := beq_eq_false_iff_ne.2 (h x (List.mem_cons_self ..))
    rw [List.map_cons, List.cons_append, joinS]
    simp only [hx]
    rw [join_words r rest (fun y hy => h y (List.mem_cons_of_mem _ hy))]
    simp [lineB]
theorem join_lines : ∀ (ls : List (List (List UInt8))), (∀ l ∈ ls, ∀ x ∈ l, x ≠ [59]) → joinS true (ls.flatMap lineT) = ls.flatMap lineB
  | [], _ => rfl
  | l :: r, h => by
    rw [List.flatMap_cons, List.flatMap_cons, join_line _ _ (h l (List.mem_cons_self ..)), join_lines r (fun y hy => h y (List.mem_cons_of_mem _ hy))]
theorem digL_ne (n : Nat) : digL n ≠ [59] := by
  induction n using Nat.strongRecOn with
  | ind n ih =>
    rw [digL]
    split
    · rename_i h
      have hm : ∀ m : Fin 10, ([UInt8.ofNat (48 + m.val)] : List UInt8) ≠ [59] := by decide
      exact hm ⟨n, h⟩
    · rename_i h
      intro e
      have hl := congrArg List.length e
      have hd : digL (n / 10) ≠ [] := by rw [digL]; split <;> simp
      rw [List.length_append] at hl
      have := List.length_pos_iff.2 hd
      simp at hl
      exact hd hl
theorem name_ne {x : List UInt8} (h : nameL x = true) : x ≠ [59] := by rintro rfl; exact absurd h (by decide)
/-- Every word of a line is no sign, where its names are names. -/
structure NamesOk (g : Gr) : Prop where
  gs : ∀ p ∈ g.gs, nameL p.name.toList = true ∧ (p.parent.toList = [] ∨ nameL p.parent.toList = true)
  es : ∀ v ∈ g.es, nameL v.name.toList = true ∧ nameL v.role.toList = true ∧ (v.group.toList = [] ∨ nameL v.group.toList = true)
  rs : ∀ r ∈ g.rs, nameL r.src.toList = true ∧ nameL r.dst.toList = true
  us : ∀ u ∈ g.us, nameL u.name.toList = true ∧ (∀ r ∈ u.roles, nameL r.toList = true) ∧ (u.sub.toList = [] ∨ nameL u.sub.toList = true)
theorem opt_ne {l : List (List UInt8)} {word name : List UInt8} (hl : ∀ x ∈ l, x ≠ [59]) (hw : word ≠ [59]) (hn : name = [] ∨ nameL name = true) : ∀ x ∈ optB l word name, x ≠ [59] := by
  intro x hx
  unfold optB at hx
  split at hx
  · exact hl x hx
  · rename_i h
    rcases List.mem_append.1 hx with h1 | h1
    · exact hl x h1
    · rcases List.mem_cons.1 h1 with rfl | h1
      · exact hw
      · rw [List.mem_singleton.1 h1]
        rcases hn with e | e
        · exact absurd e h
        · exact name_ne e
theorem lines_ne {g : Gr} (h : NamesOk g) : ∀ l ∈ linesW g, ∀ x ∈ l, x ≠ [59] := by
  intro l hl
  unfold linesW at hl
  rcases List.mem_append.1 hl with hl | hl
  · obtain ⟨p, hp, rfl⟩ := List.mem_map.1 hl
    obtain ⟨h1, h2⟩ := h.gs p hp
    refine opt_ne (fun x hx => ?_) (by decide) h2
    simp only [List.mem_cons, List.not_mem_nil, or_false] at hx
    rcases hx with rfl | rfl
    · decide
    · exact name_ne h1
  rcases List.mem_append.1 hl with hl | hl
  · obtain ⟨v, hv, rfl⟩ := List.mem_map.1 hl
    obtain ⟨h1, h2, h3⟩ := h.es v hv
    intro x hx
    unfold evW at hx
    simp only [List.mem_append] at hx
    rcases hx with (((hx | hx) | hx) | hx) | hx
    · refine opt_ne (fun x hx => ?_) (by decide) h3 x hx
      simp only [List.mem_cons, List.not_mem_nil, or_false] at hx
      rcases hx with rfl | rfl
      · decide
      · exact name_ne h1
    · simp only [List.mem_cons, List.not_mem_nil, or_false] at hx
      rcases hx with rfl | rfl
      · decide
      · exact name_ne h2
    · split at hx
      · cases hx
      · rw [List.mem_singleton.1 hx]; decide
    · split at hx
      · rw [List.mem_singleton.1 hx]; decide
      · cases hx
    · unfold dueW at hx
      split at hx
      · cases hx
      · split at hx
        · rw [List.mem_singleton.1 hx]; decide
        · simp only [List.mem_cons, List.not_mem_nil, or_false] at hx
          rcases hx with rfl | rfl
          · decide
          · exact digL_ne _
  rcases List.mem_append.1 hl with hl | hl
  · obtain ⟨r, hr, rfl⟩ := List.mem_map.1 hl
    obtain ⟨h1, h2⟩ := h.rs r hr
    intro x hx
    unfold rlW at hx
    rcases List.mem_append.1 hx with hx | hx
    · simp only [List.mem_cons, List.not_mem_nil, or_false] at hx
      rcases hx with rfl | rfl | rfl
      · unfold kwB; split <;> (try split) <;> (try split) <;> (try split) <;> decide
      · exact name_ne h1
      · exact name_ne h2
    · split at hx
      · cases hx
      · rw [List.mem_singleton.1 hx]; exact digL_ne _
  · obtain ⟨u, hu, rfl⟩ := List.mem_map.1 hl
    obtain ⟨h1, h2, h3⟩ := h.us u hu
    refine opt_ne (fun x hx => ?_) (by decide) h3
    rcases List.mem_append.1 hx with hx | hx
    · simp only [List.mem_cons, List.not_mem_nil, or_false] at hx
      rcases hx with rfl | rfl | rfl
      · decide
      · exact name_ne h1
      · decide
    · obtain ⟨r, hr, rfl⟩ := List.mem_map.1 hx
      exact name_ne (h2 r hr)
/-- What Join makes of Print's tokens is the document's text. -/
theorem print_join {g : Gr} (h : NamesOk g) : joinS true (printT g) = printB g := join_lines _ (lines_ne h)
end Go.Proofs.YtigbceankmfaeaaGreatDoor.P3

namespace Go.Proofs.YtigbceankmfaeaaGreatDoor.P3
theorem hasB_mem {l : List Key} {k : Key} : hasB l k = true ↔ k ∈ l := by unfold hasB; exact List.contains_iff_mem
theorem beq_nil {l : Key} : (l == []) = true ↔ l = [] := by cases l <;> simp
theorem nameK_L {s : Key} (h : nameK s = true) : nameL s = true := by unfold nameK at h; rw [Bool.and_eq_true] at h; exact h.2
theorem gp_may {g : Gr} {i : Nat} (h : groupE g i = 0) : nameK g.gs[i]!.name.toList = true ∧ (g.gs[i]!.parent.toList = [] ∨ g.gs[i]!.parent.toList ∈ gns g) := by
  unfold groupE at h
  split at h
  · rename_i h1
    refine ⟨h1, ?_⟩
    split at h
    · cases h
    · split at h
      · rename_i h2; exact .inl (beq_nil.1 h2)
      · split at h
        · rename_i h2; rw [Bool.and_eq_true] at h2; exact .inr (hasB_mem.1 h2.1)
        · cases h
  · cases h
theorem ev_may {g : Gr} {i : Nat} (h : eventE g i = 0) : nameK g.es[i]!.name.toList = true ∧ nameK g.es[i]!.role.toList = true ∧ (g.es[i]!.group.toList = [] ∨ nameK g.es[i]!.group.toList = true) ∧ -1 ≤ g.es[i]!.due ∧ g.es[i]!.due ≤ 1048576 := by
  unfold eventE at h
  split at h
  · rename_i h1
    rw [Bool.and_eq_true, Bool.and_eq_true, Bool.or_eq_true] at h1
    obtain ⟨⟨a, b⟩, c⟩ := h1
    split at h
    · cases h
    · split at h
      · split at h
        · cases h
        · split at h
          · cases h
          · refine ⟨a, b, ?_, by omega, by omega⟩
            rcases c with c | c
            · exact .inl (beq_nil.1 c)
            · exact .inr c
      · cases h
  · cases h
theorem rl_may {g : Gr} {i : Nat} (h : relE g i = 0) : 1 ≤ g.rs[i]!.kind ∧ g.rs[i]!.kind ≤ 5 ∧ (g.rs[i]!.src.toList ∈ ens g ∨ g.rs[i]!.src.toList ∈ gns g) ∧ (g.rs[i]!.dst.toList ∈ ens g ∨ g.rs[i]!.dst.toList ∈ gns g) ∧ 0 ≤ g.rs[i]!.time ∧ g.rs[i]!.time ≤ longL g.rs[i]!.kind := by
  unfold relE at h
  split at h
  · cases h
  · split at h
    · cases h
    · split at h
      · rename_i h1
        unfold thereB at h1
        rw [Bool.and_eq_true, Bool.or_eq_true, Bool.or_eq_true] at h1
        obtain ⟨a, b⟩ := h1
        simp only [hasB_mem] at a b
        split at h
        · cases h
        · split at h
          · cases h
          · exact ⟨by omega, by omega, a, b, by omega, by omega⟩
      · cases h
theorem us_may {g : Gr} {i : Nat} (h : userE g i = 0) : nameK g.us[i]!.name.toList = true ∧ (∀ s ∈ g.us[i]!.roles, nameK s.toList = true) ∧ (g.us[i]!.sub.toList = [] ∨ g.us[i]!.sub.toList ∈ uns g) := by
  unfold userE at h
  split at h
  · rename_i h1
    rw [Bool.and_eq_true, List.all_eq_true] at h1
    refine ⟨h1.1, h1.2, ?_⟩
    split at h
    · cases h
    · split at h
      · rename_i h2
        rw [Bool.or_eq_true] at h2
        rcases h2 with h2 | h2
        · exact .inl (beq_nil.1 h2)
        · exact .inr (hasB_mem.1 h2)
      · cases h
  · cases h
/-- What a graph that may be is. -/
structure MayOk (g : Gr) : Prop where
  ngs : g.gs.length ≤ 40
  nes : g.es.length ≤ 80
  nrs : g.rs.length ≤ 300
  nus : g.us.length ≤ 40
  gs : ∀ p ∈ g.gs, nameK p.name.toList = true ∧ (p.parent.toList = [] ∨ nameK p.parent.toList = true)
  es : ∀ v ∈ g.es, nameK v.name.toList = true ∧ nameK v.role.toList = true ∧ (v.group.toList = [] ∨ nameK v.group.toList = true) ∧ -1 ≤ v.due ∧ v.due ≤ 1048576
  rs : ∀ r ∈ g.rs, 1 ≤ r.kind ∧ r.kind ≤ 5 ∧ nameK r.src.toList = true ∧ nameK r.dst.toList = true ∧ 0 ≤ r.time ∧ r.time ≤ longL r.kind
  us : ∀ u ∈ g.us, nameK u.name.toList = true ∧ (∀ s ∈ u.roles, nameK s.toList = true) ∧ (u.sub.toList = [] ∨ nameK u.sub.toList = true) ∧ u.roles.length ≤ 8
theorem at_of {α : Type} [Inhabited α] {l : List α} {p : α → Prop} (h : ∀ i, i < l.length → p l[i]!) : ∀ x ∈ l, p x := by
  intro x hx
  obtain ⟨i, hi, rfl⟩ := List.getElem_of_mem hx
  have := h i hi
  rwa [getElem!_pos l i hi] at this
theorem may_ok {g : Gr} (h : mayL g = true) : MayOk g := by
  obtain ⟨h0, h1, h2, h3, h4⟩ := may_iff.1 h
  have G : ∀ s ∈ gns g, nameK s = true := by
    intro s hs
    obtain ⟨p, hp, rfl⟩ := List.mem_map.1 hs
    exact at_of (p := fun p : Gp => nameK p.name.toList = true) (fun i hi => (gp_may (h1 i hi)).1) p hp
  have E : ∀ s ∈ ens g, nameK s = true := by
    intro s hs
    obtain ⟨p, hp, rfl⟩ := List.mem_map.1 hs
    exact at_of (p := fun p : Ev => nameK p.name.toList = true) (fun i hi => (ev_may (h2 i hi)).1) p hp
  have U : ∀ s ∈ uns g, nameK s = true := by
    intro s hs
    obtain ⟨p, hp, rfl⟩ := List.mem_map.1 hs
    exact at_of (p := fun p : Us => nameK p.name.toList = true) (fun i hi => (us_may (h4 i hi)).1) p hp
  have GE : ∀ s, (s ∈ ens g ∨ s ∈ gns g) → nameK s = true := fun s hs => hs.elim (E s) (G s)
  unfold limitE at h0
  split at h0
  · cases h0
  split at h0
  · cases h0
  split at h0
  · cases h0
  split at h0
  · cases h0
  split at h0
  · cases h0
  rename_i q
  have R : ∀ u ∈ g.us, u.roles.length ≤ 8 := by
    intro u hu
    by_cases hh : 8 < u.roles.length
    · exact absurd (List.any_eq_true.2 ⟨u, hu, decide_eq_true hh⟩) q
    · omega
  refine ⟨by omega, by omega, by omega, by omega, at_of fun i hi => ?_, at_of fun i hi => ev_may (h2 i hi), at_of fun i hi => ?_, fun u hu => ?_⟩
  · obtain ⟨a, b⟩ := gp_may (h1 i hi)
    exact ⟨a, b.imp id (G _)⟩
  · obtain ⟨a, b, c, d, e, f⟩ := rl_may (h3 i hi)
    exact ⟨a, b, GE _ c, GE _ d, e, f⟩
  · have := at_of (p := fun u : Us => nameK u.name.toList = true ∧ (∀ s ∈ u.roles, nameK s.toList = true) ∧ (u.sub.toList = [] ∨ u.sub.toList ∈ uns g)) (fun i hi => us_may (h4 i hi)) u hu
    exact ⟨this.1, this.2.1, this.2.2.imp id (U _), R u hu⟩
theorem MayOk.names {g : Gr} (h : MayOk g) : NamesOk g :=
  ⟨fun p hp => ⟨nameK_L (h.gs p hp).1, (h.gs p hp).2.imp id nameK_L⟩, fun v hv => ⟨nameK_L (h.es v hv).1, nameK_L (h.es v hv).2.1, (h.es v hv).2.2.1.imp id nameK_L⟩,
    fun r hr => ⟨nameK_L (h.rs r hr).2.2.1, nameK_L (h.rs r hr).2.2.2.1⟩, fun u hu => ⟨nameK_L (h.us u hu).1, fun r hr => nameK_L ((h.us u hu).2.1 r hr), (h.us u hu).2.2.1.imp id nameK_L⟩⟩
end Go.Proofs.YtigbceankmfaeaaGreatDoor.P3
