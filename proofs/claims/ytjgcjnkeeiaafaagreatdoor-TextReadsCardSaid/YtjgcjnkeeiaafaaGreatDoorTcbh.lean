/-
  strings.Builder over this program: the library's contracts laid at this program's numbers by hand. Contract of lex.Join, of any tokens that lie in memory. Contracts of slices.Clone at tokens, and of lex.Statements.
-/
import Derived.Shelf.Strings.BuilderK
import Derived.Test.YtjgcjnkeeiaafaaGreatDoorProg
import Derived.Test.YtjgcjnkeeiaafaaGreatDoorTcab
import Derived.BigQuiet
import Derived.Deep.QuietTactic
namespace Go.Proofs.YtjgcjnkeeiaafaaGreatDoor
open Go.Shelf Go.RowKit
def bldRen : Go.Shelf.Ren := ⟨fun | 240 => 93 | 276 => 117 | 166 => 53 | 167 => 52 | 169 => 54 | n => n,
  fun | 0 => 0 | 3 => 3 | 4 => 4 | 5 => 5 | 9 => 9 | 20 => 20 | 37 => 107 | 70 => 106 | 72 => 109 | 75 => 111 | 80 => 115 | 127 => 142 | 164 => 166 | n => n, fun | n => n⟩
theorem lays166 : Lays.n166 Tryz.prog bldRen := {
  mixed := by kernel_rfl
  f166 := Tryz.func53.trans (congrArg some (by kernel_rfl))
  f240 := Tryz.func93.trans (congrArg some (by kernel_rfl))
  f276 := Tryz.func117.trans (congrArg some (by kernel_rfl))
  t0 := Tryz.underlying0
  a0 := Tryz.isAgg0
  z0 := Tryz.sizeOf0
  v0 := Tryz.zeroValue0
  t3 := Tryz.underlying3
  a3 := Tryz.isAgg3
  z3 := Tryz.sizeOf3
  v3 := Tryz.zeroValue3
  t4 := Tryz.underlying4
  a4 := Tryz.isAgg4
  z4 := Tryz.sizeOf4
  v4 := Tryz.zeroValue4
  t9 := Tryz.underlying9
  a9 := Tryz.isAgg9
  z9 := Tryz.sizeOf9
  v9 := Tryz.zeroValue9
  t20 := Tryz.underlying20
  a20 := Tryz.isAgg20
  z20 := Tryz.sizeOf20
  v20 := Tryz.zeroValue20
  t37 := Tryz.underlying107
  a37 := Tryz.isAgg107
  z37 := Tryz.sizeOf107
  v37 := Tryz.zeroValue107
  t70 := Tryz.underlying106
  a70 := Tryz.isAgg106
  z70 := Tryz.sizeOf106
  v70 := Tryz.zeroValue106
  t72 := Tryz.underlying109
  a72 := Tryz.isAgg109
  z72 := Tryz.sizeOf109
  v72 := Tryz.zeroValue109
  t75 := Tryz.underlying111
  a75 := Tryz.isAgg111
  z75 := Tryz.sizeOf111
  v75 := Tryz.zeroValue111
  t164 := Tryz.underlying166
  a164 := Tryz.isAgg166
  z164 := Tryz.sizeOf166
  v164 := Tryz.zeroValue166 }
theorem lays167 : Lays.n167 Tryz.prog bldRen := {
  mixed := by kernel_rfl
  f167 := Tryz.func52.trans (congrArg some (by kernel_rfl))
  f240 := Tryz.func93.trans (congrArg some (by kernel_rfl))
  f276 := Tryz.func117.trans (congrArg some (by kernel_rfl))
  t0 := Tryz.underlying0
  a0 := Tryz.isAgg0
  z0 := Tryz.sizeOf0
  v0 := Tryz.zeroValue0
  t4 := Tryz.underlying4
  a4 := Tryz.isAgg4
  z4 := Tryz.sizeOf4
  v4 := Tryz.zeroValue4
  t5 := Tryz.underlying5
  a5 := Tryz.isAgg5
  z5 := Tryz.sizeOf5
  v5 := Tryz.zeroValue5
  t9 := Tryz.underlying9
  a9 := Tryz.isAgg9
  z9 := Tryz.sizeOf9
  v9 := Tryz.zeroValue9
  t20 := Tryz.underlying20
  a20 := Tryz.isAgg20
  z20 := Tryz.sizeOf20
  v20 := Tryz.zeroValue20
  t37 := Tryz.underlying107
  a37 := Tryz.isAgg107
  z37 := Tryz.sizeOf107
  v37 := Tryz.zeroValue107
  t70 := Tryz.underlying106
  a70 := Tryz.isAgg106
  z70 := Tryz.sizeOf106
  v70 := Tryz.zeroValue106
  t72 := Tryz.underlying109
  a72 := Tryz.isAgg109
  z72 := Tryz.sizeOf109
  v72 := Tryz.zeroValue109
  t75 := Tryz.underlying111
  a75 := Tryz.isAgg111
  z75 := Tryz.sizeOf111
  v75 := Tryz.zeroValue111
  t164 := Tryz.underlying166
  a164 := Tryz.isAgg166
  z164 := Tryz.sizeOf166
  v164 := Tryz.zeroValue166 }
theorem lays169 : Lays.n169 Tryz.prog bldRen := {
  mixed := by kernel_rfl
  f169 := Tryz.func54.trans (congrArg some (by kernel_rfl))
  t0 := Tryz.underlying0
  a0 := Tryz.isAgg0
  z0 := Tryz.sizeOf0
  v0 := Tryz.zeroValue0
  t3 := Tryz.underlying3
  a3 := Tryz.isAgg3
  z3 := Tryz.sizeOf3
  v3 := Tryz.zeroValue3
  t9 := Tryz.underlying9
  a9 := Tryz.isAgg9
  z9 := Tryz.sizeOf9
  v9 := Tryz.zeroValue9
  t37 := Tryz.underlying107
  a37 := Tryz.isAgg107
  z37 := Tryz.sizeOf107
  v37 := Tryz.zeroValue107
  t70 := Tryz.underlying106
  a70 := Tryz.isAgg106
  z70 := Tryz.sizeOf106
  v70 := Tryz.zeroValue106
  t72 := Tryz.underlying109
  a72 := Tryz.isAgg109
  z72 := Tryz.sizeOf109
  v72 := Tryz.zeroValue109
  t127 := Tryz.underlying142
  a127 := Tryz.isAgg142
  z127 := Tryz.sizeOf142
  v127 := Tryz.zeroValue142 }
theorem bldExtra : Builder.Extra Tryz.prog bldRen := {
  sizeBuilder := by kernel_rfl
  liesBuilder := by kernel_rfl
  t5 := Tryz.underlying5
  a5 := Tryz.isAgg5
  z5 := Tryz.sizeOf5
  v5 := Tryz.zeroValue5
  infoByte := by kernel_rfl
  cellsByte := by kernel_rfl
  sizeByte := by kernel_rfl
  neB5 := by decide }
theorem bld_byte (B b : Nat) (bs : List Value) (c : Int) (w : World) (h : Lib.IsBuilderF 109 5 B b bs w) (hlen : bs.length + 1 ≤ 140737488355328) (hBw : B ≤ w.heap.size) :
    Calls Tryz.prog 52 #[.pointer (some ⟨b, 0, none⟩), .int .u8 c] w fun e w' => e = .returned .nilIface ∧ (Lib.BuilderAtF 109 5 B b (.pointer (some ⟨b, 0, none⟩)) (bs ++ [.int .u8 c]) w' ∧ Below B w w' ∧ Lib.OthersKept 5 (some b) w w') :=
  Any.Builder_WriteByte_k lays167 bldExtra B b bs c w h hlen hBw
theorem bld_string (B b : Nat) (bs : List Value) (s : ByteArray) (w : World) (h : Lib.IsBuilderF 109 5 B b bs w) (hlen : bs.length + s.size ≤ 140737488355328) (hBw : B ≤ w.heap.size) :
    Calls Tryz.prog 53 #[.pointer (some ⟨b, 0, none⟩), .string s] w fun e w' => e = .returned (.tuple #[.int .i64 s.size, .nilIface]) ∧ (Lib.BuilderAtF 109 5 B b (.pointer (some ⟨b, 0, none⟩)) (bs ++ Lib.strCells s) w' ∧ Below B w w' ∧ Lib.OthersKept 5 (some b) w w') :=
  Any.Builder_WriteString_k lays166 bldExtra B b bs s w h hlen hBw
theorem bld_told (B b : Nat) (l : List UInt8) (w : World) (h : Lib.IsBuilderF 109 5 B b (Lib.byteCells l) w) (hBw : B ≤ w.heap.size) :
    Calls Tryz.prog 54 #[.pointer (some ⟨b, 0, none⟩)] w fun e w' => e = .returned (.string ⟨l.toArray⟩) ∧ (Lib.IsBuilderF 109 5 B b (Lib.byteCells l) w' ∧ Below B w w' ∧ Lib.OthersKept 5 (some b) w w') :=
  Any.Builder_String_any_k lays169 bldExtra B b l w h hBw
end Go.Proofs.YtjgcjnkeeiaafaaGreatDoor

namespace Go.Proofs.YtjgcjnkeeiaafaaGreatDoor.Lx
open Go.RowKit
/-- A slice of tokens that lies in memory. -/
def Toks (w : World) (A : Option Addr) (n : Nat) (l : List Tok) : Prop :=
  n = l.length ∧ (0 < n → ∃ b off, A = some ⟨b, off, none⟩ ∧ b < w.heap.size ∧ ∀ j u, (rowC l)[j]? = some u → w.cell? ⟨b, off + j, none⟩ = some u)
theorem Toks.below {w w' : World} {A : Option Addr} {n : Nat} {l : List Tok} (h : Toks w A n l) (hb : Below w.heap.size w w') : Toks w' A n l := by
  refine ⟨h.1, fun hn => ?_⟩
  obtain ⟨b, off, h1, h2, h3⟩ := h.2 hn
  exact ⟨b, off, h1, by have := hb.size; omega, fun j u hu => (hb.cell (p := ⟨b, off + j, none⟩) h2).trans (h3 j u hu)⟩
theorem Toks.of_own {w : World} {B e : Nat} {A : Option Addr} {n c : Nat} {l : List Tok} (h : w.ownsRow B e 4 (.slice A n c) l.length (rowC l)) : Toks w A n l := by
  rcases h.2 with ⟨hv, h0⟩ | ⟨g, cap, cur, hv, _, hg, _⟩
  · injection hv with h1 h2 h3
    exact ⟨by omega, fun hn => by omega⟩
  · injection hv with h1 h2 h3
    subst h1
    refine ⟨h2, fun _ => ⟨g, 0, rfl, (Array.getElem?_eq_some_iff.1 hg).1, fun j u hu => ?_⟩⟩
    have := h.cells (g := g) rfl j u hu
    rw [Addr.add_lit] at this
    exact this
theorem rowC_at (l : List Tok) : ∀ (k : Nat) (hk : k < l.length), (rowC l)[k * 4]? = some (.int .i64 l[k].kind) ∧ (rowC l)[k * 4 + 1]? = some (.string ⟨l[k].text.toArray⟩) ∧ (rowC l)[k * 4 + 2]? = some (.int .i64 l[k].val) ∧ (rowC l)[k * 4 + 3]? = some (.int .i64 l[k].loc) := by
  induction l with
  | nil => intro k hk; simp at hk
  | cons t r ih =>
    intro k hk
    cases k with
    | zero => exact ⟨rfl, rfl, rfl, rfl⟩
    | succ k =>
      have := ih k (by simpa using hk)
      have e : rowC (t :: r) = tokC t ++ rowC r := by simp [rowC]
      have h4 : (tokC t).length = 4 := rfl
      simp only [List.getElem_cons_succ]
      rw [e]
      refine ⟨?_, ?_, ?_, ?_⟩
      all_goals rw [List.getElem?_append_right (by rw [h4]; omega), h4]
      · rw [show (k + 1) * 4 - 4 = k * 4 from by omega]; exact this.1
      · rw [show (k + 1) * 4 + 1 - 4 = k * 4 + 1 from by omega]; exact this.2.1
      · rw [show (k + 1) * 4 + 2 - 4 = k * 4 + 2 from by omega]; exact this.2.2.1
      · rw [show (k + 1) * 4 + 3 - 4 = k * 4 + 3 from by omega]; exact this.2.2.2
def JoinRel (l : List Tok) (w : World) (p i : Value) (wr : World) : Prop :=
  ∃ (k : Nat) (acc : List UInt8) (pb : Bool), k ≤ l.length ∧ i = .int .i64 k ∧ p = .bool pb ∧ Lib.IsBuilderF 109 5 w.heap.size w.heap.size (Lib.byteCells acc) wr ∧ Below w.heap.size w wr ∧ Hid (acc ++ joinS pb (l.drop k) = joinS true l)
/-- The cells of one token of a slice. -/
theorem Toks.at_ {w : World} {A : Option Addr} {n k : Nat} {l : List Tok} (h : Toks w A n l) (hk : k < n) : ∃ b off t x, A = some ⟨b, off, none⟩ ∧ b < w.heap.size ∧ l[k]? = some t ∧ x = (⟨t.text.toArray⟩ : ByteArray) ∧
    w.cell? ⟨b, off + k * 4, none⟩ = some (.int .i64 t.kind) ∧ w.cell? ⟨b, off + k * 4 + 1, none⟩ = some (.string x) ∧ w.cell? ⟨b, off + k * 4 + 2, none⟩ = some (.int .i64 t.val) ∧ w.cell? ⟨b, off + k * 4 + 3, none⟩ = some (.int .i64 t.loc) := by
  obtain ⟨b, off, h1, h2, h3⟩ := h.2 (by omega)
  have hk' : k < l.length := by have := h.1; omega
  obtain ⟨c0, c1, c2, c3⟩ := rowC_at l k hk'
  exact ⟨b, off, l[k], _, h1, h2, List.getElem?_eq_getElem hk', rfl, h3 _ _ c0, by rw [Nat.add_assoc]; exact h3 _ _ c1, by rw [Nat.add_assoc]; exact h3 _ _ c2, by rw [Nat.add_assoc]; exact h3 _ _ c3⟩
theorem kept_cell {w w1 : World} {b k c : Nat} {cs : Array Value} (h : Lib.OthersKept 5 (some b) w w1) (hk : w.heap[k]? = some (.cells cs 54 (0, 0))) (hne : k ≠ b) : w1.cell? ⟨k, c, none⟩ = cs[c]? :=
  Lib.cell_of_heap (h k _ hk (by simpa using hne) (by intro c fz e; injection e with _ e; exact absurd e (by decide))) c
theorem byteCells_snoc (acc : List UInt8) (c : UInt8) : Lib.byteCells acc ++ [Value.int .u8 c.toNat] = Lib.byteCells (acc ++ [c]) := by simp [Lib.byteCells]
theorem byteCells_more (acc l : List UInt8) : Lib.byteCells acc ++ Lib.strCells ⟨l.toArray⟩ = Lib.byteCells (acc ++ l) := by simp [Lib.byteCells, Lib.strCells]
set_option maxHeartbeats 1000000 in
theorem join_any (A : Option Addr) (c : Nat) (l : List Tok) (w : World) (ht : Toks w A l.length l) (hl : l.length ≤ 1000000) (hz : (joinS true l).length ≤ 140737488355328) :
    Calls Tryz.prog 25 #[.slice A l.length c] w fun e w' => e = .returned (.string ⟨(joinS true l).toArray⟩) ∧ Below w.heap.size w w' := by
  go_enter Tryz.func25, Tryz.ntmps25
  go_wp2
  go_loopw [4, 6, 7, 10] (fun p _ _ i wr => JoinRel l w p i wr) (fun _ _ _ i _ => l.length - (intOf i).toNat)
  case atStart => exact ⟨0, [], true, Nat.zero_le _, rfl, rfl, Lib.IsBuilderF.of (Lib.fresh_isBuilder _ _ w), (Below.refl _ _).alloc (Nat.le_refl _) _, rfl⟩
  case round =>
    obtain ⟨k, acc, pb, hk, rfl, rfl, hbld, hbel, HR⟩ := hrel
    have hsz := hbel.size
    have hb0 : w.heap.size < wr.heap.size := by rcases hbld with h | h <;> exact h.lt
    by_cases hlt : k < l.length
    · obtain ⟨b, off, t, x, rfl, hbw, htk, hx, c0, c1, c2, c3⟩ := ht.at_ hlt
      rw [← hbel.cell (p := ⟨b, _, none⟩) hbw] at c0 c1 c2 c3
      have hj := join_drop pb htk
      have HX : Hid (x = (⟨t.text.toArray⟩ : ByteArray)) := hx
      have hxl : x.toList = t.text := by rw [hx, Lib.toList_data]
      clear hx
      have hlen : acc.length + (joinS pb (l.drop k)).length ≤ 140737488355328 := by rw [← List.length_append, HR.out]; exact hz
      cases hsg : (t.text == [59]) with
      | false =>
        have hx59 : (x.toList == [59]) = false := by rw [hxl]; exact hsg
        have HS := Lib.hid hsg
        have HXL := Lib.hid hxl
        rw [hsg] at hj
        clear hsg hxl
        cases pb with
        | false =>
          simp only [Bool.not_false, Bool.and_self, if_true, Bool.false_eq_true, if_false, List.nil_append] at hj
          have HR' : Hid ((acc ++ [32] ++ t.text) ++ joinS false (l.drop (k + 1)) = joinS true l) := Lib.hid (by rw [← HR.out, hj]; simp)
          rw [hj] at hlen
          simp only [List.length_append, List.length_cons, List.length_nil] at hlen
          have hxs : x.size = t.text.length := by rw [Lib.size_eq, ← Lib.toList_data, HXL.out]
          have hlen1 : (Lib.byteCells acc).length + 1 ≤ 140737488355328 := by rw [Lib.byteCells_length]; omega
          have hlen2 : (Lib.byteCells (acc ++ [32])).length + x.size ≤ 140737488355328 := by rw [Lib.byteCells_length, hxs, List.length_append]; simp only [List.length_cons, List.length_nil]; omega
          clear hj HR hxs
          go_wp2_with (first
            | (go_at_call 52; refine (bld_byte w.heap.size w.heap.size _ 32 _ (hbld.alloc _) hlen1 (by simp; omega)).mono ?_; rintro e w1 ⟨rfl, hb1, hbe1, hok1⟩; have k1 : w1.cell? ⟨wr.heap.size, 1, none⟩ = some (.string x) := kept_cell hok1 (heap_alloc_new wr _) (by omega); have hz1 := hbe1.size; rw [show (32 : Int) = ((32 : UInt8).toNat : Int) from rfl, byteCells_snoc] at hb1)
            | (go_at_call 53; refine (bld_string w.heap.size w.heap.size _ x _ (.inr hb1) hlen2 (by simp at hz1; omega)).mono ?_; rintro e w2 ⟨rfl, hb2, hbe2, hok2⟩))
          go_roundw
          case rel =>
            have h1 : Lib.byteCells (acc ++ [32]) ++ Lib.strCells x = Lib.byteCells (acc ++ [32] ++ t.text) := by rw [HX.out]; exact byteCells_more _ _
            rw [h1] at hb2
            exact ⟨k + 1, acc ++ [32] ++ t.text, false, hlt, by go_num, rfl, .inr hb2, ((hbel.alloc hsz _).trans hbe1).trans hbe2, HR'⟩
          case measure => simp [intOf]; omega
        | true =>
          simp only [Bool.not_true, Bool.false_and, Bool.false_eq_true, if_false, List.nil_append] at hj
          have HR' : Hid ((acc ++ t.text) ++ joinS false (l.drop (k + 1)) = joinS true l) := Lib.hid (by rw [← HR.out, hj]; simp)
          rw [hj] at hlen
          simp only [List.length_append] at hlen
          have hxs : x.size = t.text.length := by rw [Lib.size_eq, ← Lib.toList_data, HXL.out]
          have hlen' : (Lib.byteCells acc).length + x.size ≤ 140737488355328 := by rw [Lib.byteCells_length, hxs]; omega
          clear hj HR hxs
          go_wp2_with (first
            | (go_at_call 53; refine (bld_string w.heap.size w.heap.size _ x _ (hbld.alloc _) hlen' (by simp; omega)).mono ?_; rintro e w1 ⟨rfl, hb1, hbe1, hok1⟩))
          go_roundw
          case rel =>
            have h1 : Lib.byteCells acc ++ Lib.strCells x = Lib.byteCells (acc ++ t.text) := by rw [HX.out]; exact byteCells_more _ _
            rw [h1] at hb1
            exact ⟨k + 1, acc ++ t.text, false, hlt, by go_num, rfl, .inr hb1, (hbel.alloc hsz _).trans hbe1, HR'⟩
          case measure => simp [intOf]; omega
      | true =>
        have hx59 : (x.toList == [59]) = true := by rw [hxl]; exact hsg
        have HXL := Lib.hid hxl
        rw [hsg] at hj
        clear hsg hxl
        simp only [Bool.not_true, Bool.and_false, Bool.false_eq_true, if_false, if_true, List.nil_append] at hj
        have HR' : Hid ((acc ++ t.text ++ [10]) ++ joinS true (l.drop (k + 1)) = joinS true l) := Lib.hid (by rw [← HR.out, hj]; simp)
        rw [hj] at hlen
        simp only [List.length_append, List.length_cons, List.length_nil] at hlen
        have hxs : x.size = t.text.length := by rw [Lib.size_eq, ← Lib.toList_data, HXL.out]
        have hlen1 : (Lib.byteCells acc).length + x.size ≤ 140737488355328 := by rw [Lib.byteCells_length, hxs]; omega
        have hlen2 : (Lib.byteCells (acc ++ t.text)).length + 1 ≤ 140737488355328 := by rw [Lib.byteCells_length, List.length_append]; omega
        have h1 : Hid (Lib.byteCells acc ++ Lib.strCells x = Lib.byteCells (acc ++ t.text)) := Lib.hid (by rw [HX.out]; exact byteCells_more _ _)
        clear hj HR hxs
        cases pb
        all_goals
          go_wp2_with (first
            | (go_at_call 53; refine (bld_string w.heap.size w.heap.size _ x _ (hbld.alloc _) hlen1 (by simp; omega)).mono ?_; rintro e w1 ⟨rfl, hb1, hbe1, hok1⟩; have hz1 := hbe1.size; rw [h1.out] at hb1)
            | (go_at_call 52; refine (bld_byte w.heap.size w.heap.size _ 10 _ (.inr hb1) hlen2 (by simp at hz1; omega)).mono ?_; rintro e w2 ⟨rfl, hb2, hbe2, hok2⟩))
          go_roundw
          case rel =>
            rw [show (10 : Int) = ((10 : UInt8).toNat : Int) from rfl, byteCells_snoc] at hb2
            exact ⟨k + 1, acc ++ t.text ++ [10], true, hlt, by go_num, rfl, .inr hb2, ((hbel.alloc hsz _).trans hbe1).trans hbe2, HR'⟩
          case measure => simp [intOf]; omega
    · have HF : Hid (acc = joinS true l) := Lib.hid (by rw [← HR.out, List.drop_eq_nil_of_le (by omega)]; simp [joinS])
      clear HR
      go_wp2_with (first
        | (go_at_call 54; refine (bld_told w.heap.size w.heap.size acc _ hbld hsz).mono ?_; rintro e w1 ⟨rfl, _, hbe1, _⟩))
      go_ret
      exact ⟨by rw [← HF.out]; rfl, hbel.trans hbe1⟩
end Go.Proofs.YtjgcjnkeeiaafaaGreatDoor.Lx

namespace Go.Proofs.YtjgcjnkeeiaafaaGreatDoor.Lx
open Go.RowKit
theorem tokC_one (t : Tok) : ∀ u ∈ tokC t, u.oneCell' = true := by intro u hu; simp [tokC] at hu; rcases hu with rfl | rfl | rfl | rfl <;> rfl
theorem rowC_one (l : List Tok) : ∀ u ∈ rowC l, u.oneCell' = true := by
  intro u hu
  simp only [rowC, List.mem_flatMap] at hu
  obtain ⟨t, _, h⟩ := hu
  exact tokC_one t u h
set_option maxRecDepth 100000 in
set_option maxHeartbeats 1000000 in
theorem clone_any (A : Option Addr) (c : Nat) (l : List Tok) (w : World) (ht : Toks w A l.length l) (hl : l.length ≤ 1000000) :
    Calls Tryz.prog 29 #[.slice A l.length c] w fun e w' => ∃ v, e = .returned v ∧ w'.ownsRow w.heap.size 54 4 v l.length (rowC l) ∧ Below w.heap.size w w' := by
  obtain ⟨i0, hi, hz0, hz1, hz2⟩ := info_parts infoTok
  have HI := Lib.hid hi
  have HZ0 := Lib.hid hz0
  have HZ1 := Lib.hid hz1
  have HZ2 := Lib.hid hz2
  have q : ∀ (w : World) (a : Option Addr) (n c n' c' : Nat), (binOp .eql 43 (.slice a n c) (.slice none n' c')).run Tryz.prog w = .ok (.bool a.isNone) w := fun w a n c n' c' => Lib.run_eql_slice_nil w _ _ a n c n' c' Tryz.underlying43
  clear hi hz0 hz1 hz2
  cases A with
  | none =>
    have h0 : l = [] := by
      cases l with
      | nil => rfl
      | cons t r => obtain ⟨b, off, e, _⟩ := ht.2 (by simp); cases e
    subst h0
    go_enter Tryz.func29, Tryz.ntmps29
    go_wp2
    go_ret
    exact ⟨_, rfl, World.ownsRow_nil _ _ _ _, Below.refl _ _⟩
  | some ad =>
    have hc : Hid (∀ j u, (rowC l)[j]? = some u → (w.alloc (.cells #[] 54)).cell? (ad.add j) = some u) := by
      intro j u hu
      have hj : j < (rowC l).length := by
        rcases Nat.lt_or_ge j (rowC l).length with h | h
        · exact h
        · rw [List.getElem?_eq_none h] at hu; cases hu
      obtain ⟨b, off, e, hb, hcell⟩ := ht.2 (by rw [rowC_length] at hj; omega)
      injection e with e
      subst e
      rw [Addr.add_lit]
      exact (World.cell?_alloc_lt _ _ ⟨b, off + j, none⟩ hb).trans (hcell j u hu)
    go_enter Tryz.func29, Tryz.ntmps29
    go_wp2_with (at_builtin; refine wpList_append_own _ rfl (.tmp 5) (.tmp 6) 43 rfl w.heap.size 54 i0 _ 4 40 Tryz.underlying43 HI.out HZ0.out HZ1.out HZ2.out rfl (by omega) _ _ _ rfl (World.ownsRow_made w #[] 0 (Nat.le_refl _) (Nat.zero_le _) (by simp)) ad l.length c (rowC l) rfl (rowC_length l) ?c1 (rowC_one l) ?c3 ?c4 ?c5 ?_)
    case c1 => exact hc.out
    case c3 => unfold maxLen; omega
    case c4 => omega
    case c5 => simp
    intro v' w1 hown hgrow _
    go_wp2
    go_ret
    exact ⟨v', rfl, by simpa using hown, ((Below.refl _ w).alloc (Nat.le_refl _) _).grown hgrow (by simp) (by intro k hk; simp [Value.ownBlock] at hk; omega)⟩
theorem infoToks : (Tryz.prog.info? 43).map (fun i => (i.zero, i.size, i.bytes)) = some (some (.slice none 0 0), 1, 24) := by kernel_rfl
/-- A part's slice value: where it lies in the whole's. -/
def SegV (oa : Option Addr) (s : Nat × Nat) (v : Value) : Prop :=
  ∃ ad : Addr, v = .slice (some ad) (s.2 - s.1) (s.2 - s.1) ∧ (s.1 < s.2 → ∃ b off, oa = some ⟨b, off, none⟩ ∧ ad = ⟨b, off + s.1 * 4, none⟩)
def SegVs (oa : Option Addr) (ss : List (Nat × Nat)) (vs : List Value) : Prop := vs.length = ss.length ∧ ∀ (j : Nat) (s : Nat × Nat), ss[j]? = some s → ∃ v, vs[j]? = some v ∧ SegV oa s v
theorem SegVs.snoc {oa : Option Addr} {ss : List (Nat × Nat)} {vs : List Value} {s : Nat × Nat} {v : Value} (h : SegVs oa ss vs) (hv : SegV oa s v) : SegVs oa (ss ++ [s]) (vs ++ [v]) := by
  refine ⟨by simp [h.1], fun j x hj => ?_⟩
  rcases Nat.lt_or_ge j ss.length with hlt | hge
  · rw [List.getElem?_append_left hlt] at hj
    obtain ⟨u, hu, hs⟩ := h.2 j x hj
    exact ⟨u, by rw [List.getElem?_append_left (by rw [h.1]; exact hlt)]; exact hu, hs⟩
  · rw [List.getElem?_append_right hge] at hj
    have hj0 : j - ss.length = 0 := by
      rcases Nat.eq_zero_or_pos (j - ss.length) with h0 | h0
      · exact h0
      · rw [List.getElem?_eq_none (by simp; omega)] at hj; cases hj
    rw [hj0] at hj
    simp at hj
    subst hj
    exact ⟨v, by rw [List.getElem?_append_right (by rw [h.1]; exact hge), h.1, hj0]; rfl, hv⟩
def StRel (l : List Tok) (oa : Option Addr) (oc : Nat) (w : World) (v s i : Value) (wr : World) : Prop :=
  ∃ (k st : Nat) (ss : List (Nat × Nat)) (vs : List Value), k ≤ l.length ∧ st ≤ k ∧ i = .int .i64 k ∧ s = .int .i64 st ∧ vs.length ≤ k ∧ wr.ownsRow w.heap.size 43 1 v vs.length vs ∧ SegVs oa ss vs ∧
    wr.ownsRow w.heap.size 54 4 (.slice oa l.length oc) l.length (rowC l) ∧ Below w.heap.size w wr ∧ Hid ((ss ++ (segS (l.drop k) k st).1, (segS (l.drop k) k st).2) = segS l 0 0)
/-- What Statements hands back. -/
def StOf (l : List Tok) (w : World) (e : Ending) (w' : World) : Prop :=
  Below w.heap.size w w' ∧
  ((∃ t, l[(segS l 0 0).2]? = some t ∧ e = .returned (.tuple #[.slice none 0 0, .int .i64 t.loc, .int .i64 2])) ∨
   (l.length ≤ (segS l 0 0).2 ∧ ∃ v vs oa oc, e = .returned (.tuple #[v, .int .i64 0, .int .i64 0]) ∧ w'.ownsRow w.heap.size 43 1 v vs.length vs ∧ SegVs oa (segS l 0 0).1 vs ∧
     w'.ownsRow w.heap.size 54 4 (.slice oa l.length oc) l.length (rowC l)))
theorem own_cap {w : World} {B e z n c : Nat} {A : Option Addr} {xs : List Value} (h : w.ownsRow B e z (.slice A n c) n xs) : n ≤ c := by
  rcases h.2 with ⟨hv, h0⟩ | ⟨g, cap, cur, hv, _, _, hn, _⟩
  · omega
  · injection hv with _ _ h3; omega
/-- Rows of different element types share no block. -/
theorem own_ne {w : World} {B B' e e' z z' n n' : Nat} {v v' : Value} {xs xs' : List Value} (h : w.ownsRow B e z v n xs) (h' : w.ownsRow B' e' z' v' n' xs') (hne : e ≠ e') : v.ownBlock = none ∨ v.ownBlock ≠ v'.ownBlock := by
  rcases h.2 with ⟨rfl, _⟩ | ⟨g, cap, cur, rfl, _, hg, _⟩
  · exact .inl rfl
  · rcases h'.2 with ⟨rfl, _⟩ | ⟨g', cap', cur', rfl, _, hg', _⟩
    · right; simp [Value.ownBlock]
    · right
      intro hh
      simp only [Value.ownBlock, Option.some.injEq] at hh
      subst hh
      rw [hg] at hg'
      injection hg' with hg'
      injection hg' with _ hg'
      exact hne hg'
theorem below_draws {B : Nat} {a w : World} (h : Below B a w) (n : Nat) : Below B a (w.drewN n) := ⟨h.os, h.tape, h.output, h.size, h.block⟩
/-- Behind the append of a part. -/
theorem st_behind {w wr w2 : World} {o1 o2 : Obj} {n c m : Nat} {v : Value} {oa : Option Addr} {xs ys : List Value} (hb : Below w.heap.size w wr) (hv : wr.ownsRow w.heap.size 43 1 v n xs) (hown : wr.ownsRow w.heap.size 54 4 (.slice oa m c) m ys)
    (hg : ((wr.alloc o1).alloc o2).grownBy w2 v.ownBlock) : w2.ownsRow w.heap.size 54 4 (.slice oa m c) m ys ∧ Below w.heap.size w w2 := by
  have z1 := hb.size
  refine ⟨((hown.alloc o1).alloc o2).kept hg (own_ne hown hv (by decide)), ?_⟩
  exact ((hb.alloc (by omega) _).alloc (by simp; omega) _).grown hg (by simp; omega) fun k hk => (hv.lt k hk).1
set_option maxRecDepth 100000 in
set_option maxHeartbeats 2000000 in
theorem statements_any (A : Option Addr) (c : Nat) (l : List Tok) (w : World) (ht : Toks w A l.length l) (hl : l.length ≤ 1000000) :
    Calls Tryz.prog 11 #[.slice A l.length c] w (StOf l w) := by
  have C25 := Lib.hid (clone_any A c l w ht hl)
  obtain ⟨i0, hi, hz0, hz1, hz2⟩ := info_parts infoToks
  have HI := Lib.hid hi
  have HZ0 := Lib.hid hz0
  have HZ1 := Lib.hid hz1
  have HZ2 := Lib.hid hz2
  clear ht hi hz0 hz1 hz2
  go_enter Tryz.func11, Tryz.ntmps11
  go_wp2_with (go_at_call 29; refine C25.out.mono ?_; rintro e w0 ⟨own, rfl, hown0, hb0⟩; obtain ⟨oa, oc, rfl⟩ := own_slice hown0)
  go_loopw [6, 7, 8, 9, 14] (fun v s _ _ i wr => StRel l oa oc w v s i wr) (fun _ _ _ _ i _ => l.length - (intOf i).toNat)
  case atStart => exact ⟨0, 0, [], [], Nat.zero_le _, Nat.le_refl _, rfl, rfl, Nat.zero_le _, World.ownsRow_nil _ _ _ _, ⟨rfl, by simp⟩, hown0, hb0, rfl⟩
  case round =>
    obtain ⟨k, st, ss, vs, hk, hst, rfl, rfl, hvk, hv, hsv, hown, hbel, HR⟩ := hrel
    have hoc := own_cap hown
    have hbz := hbel.size
    clear hown0 hb0
    by_cases hlt : k < l.length
    · obtain ⟨b, off, t, x, rfl, hbw, htk, hx, c0, c1, c2, c3⟩ := (Toks.of_own hown).at_ hlt
      have HK := Lib.hid htk
      clear hx htk
      obtain ⟨va, vc, rfl⟩ := own_slice hv
      by_cases hk3 : t.kind = 3
      · have hk3' : ((t.kind : Int) != 3) = false := by rw [bne_eq_false_iff_eq]; omega
        have HR' : Hid (((ss ++ [(st, k)]) ++ (segS (l.drop (k + 1)) (k + 1) (k + 1)).1, (segS (l.drop (k + 1)) (k + 1) (k + 1)).2) = segS l 0 0) := Lib.hid (by rw [← HR.out, seg_sign HK.out hk3]; simp)
        have HV := Lib.hid hv
        have HO := Lib.hid hown
        have HS := Lib.hid hsv
        clear hk3 HR hv hown hsv
        by_cases hks : k = st
        · subst hks
          go_wp2_with (first
            | (at_builtin; refine wpList_append_own _ rfl (.tmp 22) (.tmp 28) 46 rfl w.heap.size 43 i0 _ 1 24 Tryz.underlying46 HI.out HZ0.out HZ1.out HZ2.out rfl (by omega) _ _ _ rfl ((HV.out.alloc _).alloc _) ⟨wr.heap.size + 1, 0, none⟩ 1 1 [.slice (some ⟨b, off, none⟩) 0 0] rfl rfl ?c1 ?c2 ?c3 ?c4 ?c5 ?_))
          case c1 =>
            intro j u hj
            match j, hj with
            | 0, hj => simp at hj; subst hj; simp [Addr.add]
          case c2 => intro u hu; simp at hu; subst hu; rfl
          case c3 => unfold maxLen; omega
          case c4 => omega
          case c5 => simp; omega
          intro v' w2 hown' hgrow _
          obtain ⟨ho2, hb2⟩ := st_behind hbel HV.out HO.out hgrow
          have HS' := Lib.hid (HS.out.snoc (s := (k, k)) (v := .slice (some ⟨b, off, none⟩) 0 0) ⟨⟨b, off, none⟩, by simp, fun h => by simp at h⟩)
          have HV' : Hid (w2.ownsRow w.heap.size 43 1 v' (vs ++ [Value.slice (some ⟨b, off, none⟩) 0 0]).length (vs ++ [Value.slice (some ⟨b, off, none⟩) 0 0])) := Lib.hid (by rw [List.length_append]; exact hown')
          clear hown' hgrow
          go_wp2
          go_roundw
          case rel => exact ⟨k + 1, k + 1, _, _, hlt, Nat.le_refl _, by go_num, by go_num, by simp; omega, HV'.out, HS'.out, ho2, hb2, HR'⟩
          case measure => simp [intOf]; omega
        · have hks' : ¬ k = st := hks
          go_wp2_with (first
            | (at_builtin; refine wpList_append_own _ rfl (.tmp 22) (.tmp 28) 46 rfl w.heap.size 43 i0 _ 1 24 Tryz.underlying46 HI.out HZ0.out HZ1.out HZ2.out rfl (by omega) _ _ _ rfl ((HV.out.alloc _).alloc _) ⟨wr.heap.size + 1, 0, none⟩ 1 1 [.slice (some ⟨b, off + st * 4, none⟩) (k - st) (k - st)] rfl rfl ?d1 ?d2 ?d3 ?d4 ?d5 ?_))
          case d1 =>
            intro j u hj
            match j, hj with
            | 0, hj => simp at hj; subst hj; simp [Addr.add]
          case d2 => intro u hu; simp at hu; subst hu; rfl
          case d3 => unfold maxLen; omega
          case d4 => omega
          case d5 => simp; omega
          intro v' w2 hown' hgrow _
          obtain ⟨ho2, hb2⟩ := st_behind hbel HV.out HO.out hgrow
          have HS' := Lib.hid (HS.out.snoc (s := (st, k)) (v := .slice (some ⟨b, off + st * 4, none⟩) (k - st) (k - st)) ⟨_, rfl, fun _ => ⟨b, off, rfl, rfl⟩⟩)
          have HV' : Hid (w2.ownsRow w.heap.size 43 1 v' (vs ++ [Value.slice (some ⟨b, off + st * 4, none⟩) (k - st) (k - st)]).length (vs ++ [Value.slice (some ⟨b, off + st * 4, none⟩) (k - st) (k - st)])) := Lib.hid (by rw [List.length_append]; exact hown')
          clear hown' hgrow
          go_wp2
          go_roundw
          case rel => exact ⟨k + 1, k + 1, _, _, hlt, Nat.le_refl _, by go_num, by go_num, by simp; omega, HV'.out, HS'.out, ho2, hb2, HR'⟩
          case measure => simp [intOf]; omega
      · have hk3' : ((t.kind : Int) != 3) = true := by rw [bne_iff_ne]; omega
        have HR' : Hid ((ss ++ (segS (l.drop (k + 1)) (k + 1) st).1, (segS (l.drop (k + 1)) (k + 1) st).2) = segS l 0 0) := Lib.hid (by rw [← HR.out, seg_other HK.out hk3])
        have HV := Lib.hid hv
        have HO := Lib.hid hown
        have HS := Lib.hid hsv
        clear hk3 HR hv hown hsv
        go_wp2_with fail
        go_roundw
        case rel => exact ⟨k + 1, st, ss, vs, hlt, by omega, by go_num, rfl, by omega, HV.out.alloc _, HS.out, HO.out.alloc _, hbel.alloc hbz _, HR'⟩
        case measure => simp [intOf]; omega
    · obtain rfl : k = l.length := by omega
      have HF : Hid ((ss, st) = segS l 0 0) := Lib.hid (by rw [← HR.out, seg_end (Nat.le_refl _)]; simp)
      clear HR
      by_cases hs2 : st < l.length
      · obtain ⟨b, off, t, x, rfl, hbw, htk, hx, c0, c1, c2, c3⟩ := (Toks.of_own hown).at_ hs2
        have HK : Hid (l[(segS l 0 0).2]? = some t) := Lib.hid (by rw [← HF.out]; exact htk)
        clear hx htk hown hv hsv
        go_wp2_with fail
        go_quiet (fail)
        go_wp2
        go_ret3
        exact ⟨below_draws hbel nq, .inl ⟨t, HK.out, rfl⟩⟩
      · have HK : Hid (l.length ≤ (segS l 0 0).2) := Lib.hid (by rw [← HF.out]; simp; omega)
        have HS : Hid (SegVs oa (segS l 0 0).1 vs) := Lib.hid (by rw [← HF.out]; exact hsv)
        have HV := Lib.hid hv
        have HO := Lib.hid hown
        clear hv hown hsv
        go_wp2_with fail
        go_ret3
        exact ⟨hbel, .inr ⟨HK.out, _, vs, oa, oc, rfl, HV.out, HS.out, HO.out⟩⟩
end Go.Proofs.YtjgcjnkeeiaafaaGreatDoor.Lx
