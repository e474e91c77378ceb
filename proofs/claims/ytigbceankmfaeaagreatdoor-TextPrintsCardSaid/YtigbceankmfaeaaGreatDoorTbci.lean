/-
  strings.Builder over this program: the library's contracts laid at this program's numbers by hand. Contract of lex.Join, of any tokens that lie in memory.
-/
import Derived.Shelf.Strings.BuilderK
import Derived.Test.YtigbceankmfaeaaGreatDoorProg
import Derived.Test.YtigbceankmfaeaaGreatDoorTbac
namespace Go.Proofs.YtigbceankmfaeaaGreatDoor
open Go.Shelf Go.RowKit
def bldRen : Go.Shelf.Ren := ⟨fun | 240 => 67 | 276 => 106 | 166 => 37 | 167 => 36 | 169 => 38 | n => n,
  fun | 0 => 0 | 3 => 3 | 4 => 4 | 5 => 5 | 9 => 9 | 20 => 20 | 37 => 90 | 70 => 89 | 72 => 92 | 75 => 94 | 80 => 98 | 127 => 123 | 164 => 145 | n => n, fun | n => n⟩
theorem lays166 : Lays.n166 Tryz.prog bldRen := {
  mixed := by kernel_rfl
  f166 := Tryz.func37.trans (congrArg some (by kernel_rfl))
  f240 := Tryz.func67.trans (congrArg some (by kernel_rfl))
  f276 := Tryz.func106.trans (congrArg some (by kernel_rfl))
  t0 := Tryz.underlying0
  a0 := Tryz.isAgg0
  z0 := Tryz.sizeOf0
  v0 := Tryz.zeroValue0
  t3 := Tryz.underlying3
  a3 := Tryz.isAgg3
  z3 := Tryz.sizeOf3
  v3 := Tryz.zeroValue3
  t4 := Tryz.underlying4
  a4 := Tryz.isAgg4
  z4 := Tryz.sizeOf4
  v4 := Tryz.zeroValue4
  t9 := Tryz.underlying9
  a9 := Tryz.isAgg9
  z9 := Tryz.sizeOf9
  v9 := Tryz.zeroValue9
  t20 := Tryz.underlying20
  a20 := Tryz.isAgg20
  z20 := Tryz.sizeOf20
  v20 := Tryz.zeroValue20
  t37 := Tryz.underlying90
  a37 := Tryz.isAgg90
  z37 := Tryz.sizeOf90
  v37 := Tryz.zeroValue90
  t70 := Tryz.underlying89
  a70 := Tryz.isAgg89
  z70 := Tryz.sizeOf89
  v70 := Tryz.zeroValue89
  t72 := Tryz.underlying92
  a72 := Tryz.isAgg92
  z72 := Tryz.sizeOf92
  v72 := Tryz.zeroValue92
  t75 := Tryz.underlying94
  a75 := Tryz.isAgg94
  z75 := Tryz.sizeOf94
  v75 := Tryz.zeroValue94
  t164 := Tryz.underlying145
  a164 := Tryz.isAgg145
  z164 := Tryz.sizeOf145
  v164 := Tryz.zeroValue145 }
theorem lays167 : Lays.n167 Tryz.prog bldRen := {
  mixed := by kernel_rfl
  f167 := Tryz.func36.trans (congrArg some (by kernel_rfl))
  f240 := Tryz.func67.trans (congrArg some (by kernel_rfl))
  f276 := Tryz.func106.trans (congrArg some (by kernel_rfl))
  t0 := Tryz.underlying0
  a0 := Tryz.isAgg0
  z0 := Tryz.sizeOf0
  v0 := Tryz.zeroValue0
  t4 := Tryz.underlying4
  a4 := Tryz.isAgg4
  z4 := Tryz.sizeOf4
  v4 := Tryz.zeroValue4
  t5 := Tryz.underlying5
  a5 := Tryz.isAgg5
  z5 := Tryz.sizeOf5
  v5 := Tryz.zeroValue5
  t9 := Tryz.underlying9
  a9 := Tryz.isAgg9
  z9 := Tryz.sizeOf9
  v9 := Tryz.zeroValue9
  t20 := Tryz.underlying20
  a20 := Tryz.isAgg20
  z20 := Tryz.sizeOf20
  v20 := Tryz.zeroValue20
  t37 := Tryz.underlying90
  a37 := Tryz.isAgg90
  z37 := Tryz.sizeOf90
  v37 := Tryz.zeroValue90
  t70 := Tryz.underlying89
  a70 := Tryz.isAgg89
  z70 := Tryz.sizeOf89
  v70 := Tryz.zeroValue89
  t72 := Tryz.underlying92
  a72 := Tryz.isAgg92
  z72 := Tryz.sizeOf92
  v72 := Tryz.zeroValue92
  t75 := Tryz.underlying94
  a75 := Tryz.isAgg94
  z75 := Tryz.sizeOf94
  v75 := Tryz.zeroValue94
  t164 := Tryz.underlying145
  a164 := Tryz.isAgg145
  z164 := Tryz.sizeOf145
  v164 := Tryz.zeroValue145 }
theorem lays169 : Lays.n169 Tryz.prog bldRen := {
  mixed := by kernel_rfl
  f169 := Tryz.func38.trans (congrArg some (by kernel_rfl))
  t0 := Tryz.underlying0
  a0 := Tryz.isAgg0
  z0 := Tryz.sizeOf0
  v0 := Tryz.zeroValue0
  t3 := Tryz.underlying3
  a3 := Tryz.isAgg3
  z3 := Tryz.sizeOf3
  v3 := Tryz.zeroValue3
  t9 := Tryz.underlying9
  a9 := Tryz.isAgg9
  z9 := Tryz.sizeOf9
  v9 := Tryz.zeroValue9
  t37 := Tryz.underlying90
  a37 := Tryz.isAgg90
  z37 := Tryz.sizeOf90
  v37 := Tryz.zeroValue90
  t70 := Tryz.underlying89
  a70 := Tryz.isAgg89
  z70 := Tryz.sizeOf89
  v70 := Tryz.zeroValue89
  t72 := Tryz.underlying92
  a72 := Tryz.isAgg92
  z72 := Tryz.sizeOf92
  v72 := Tryz.zeroValue92
  t127 := Tryz.underlying123
  a127 := Tryz.isAgg123
  z127 := Tryz.sizeOf123
  v127 := Tryz.zeroValue123 }
theorem bldExtra : Builder.Extra Tryz.prog bldRen := {
  sizeBuilder := by kernel_rfl
  liesBuilder := by kernel_rfl
  t5 := Tryz.underlying5
  a5 := Tryz.isAgg5
  z5 := Tryz.sizeOf5
  v5 := Tryz.zeroValue5
  infoByte := by kernel_rfl
  cellsByte := by kernel_rfl
  sizeByte := by kernel_rfl
  neB5 := by decide }
theorem bld_byte (B b : Nat) (bs : List Value) (c : Int) (w : World) (h : Lib.IsBuilderF 92 5 B b bs w) (hlen : bs.length + 1 ≤ 140737488355328) (hBw : B ≤ w.heap.size) :
    Calls Tryz.prog 36 #[.pointer (some ⟨b, 0, none⟩), .int .u8 c] w fun e w' => e = .returned .nilIface ∧ (Lib.BuilderAtF 92 5 B b (.pointer (some ⟨b, 0, none⟩)) (bs ++ [.int .u8 c]) w' ∧ Below B w w' ∧ Lib.OthersKept 5 (some b) w w') :=
  Any.Builder_WriteByte_k lays167 bldExtra B b bs c w h hlen hBw
theorem bld_string (B b : Nat) (bs : List Value) (s : ByteArray) (w : World) (h : Lib.IsBuilderF 92 5 B b bs w) (hlen : bs.length + s.size ≤ 140737488355328) (hBw : B ≤ w.heap.size) :
    Calls Tryz.prog 37 #[.pointer (some ⟨b, 0, none⟩), .string s] w fun e w' => e = .returned (.tuple #[.int .i64 s.size, .nilIface]) ∧ (Lib.BuilderAtF 92 5 B b (.pointer (some ⟨b, 0, none⟩)) (bs ++ Lib.strCells s) w' ∧ Below B w w' ∧ Lib.OthersKept 5 (some b) w w') :=
  Any.Builder_WriteString_k lays166 bldExtra B b bs s w h hlen hBw
theorem bld_told (B b : Nat) (l : List UInt8) (w : World) (h : Lib.IsBuilderF 92 5 B b (Lib.byteCells l) w) (hBw : B ≤ w.heap.size) :
    Calls Tryz.prog 38 #[.pointer (some ⟨b, 0, none⟩)] w fun e w' => e = .returned (.string ⟨l.toArray⟩) ∧ (Lib.IsBuilderF 92 5 B b (Lib.byteCells l) w' ∧ Below B w w' ∧ Lib.OthersKept 5 (some b) w w') :=
  Any.Builder_String_any_k lays169 bldExtra B b l w h hBw
end Go.Proofs.YtigbceankmfaeaaGreatDoor

namespace Go.Proofs.YtigbceankmfaeaaGreatDoor.Lx
open Go.RowKit
/-- A slice of tokens that lies in memory. -/
def Toks (w : World) (A : Option Addr) (n : Nat) (l : List Tok) : Prop :=
  n = l.length ∧ (0 < n → ∃ b off, A = some ⟨b, off, none⟩ ∧ b < w.heap.size ∧ ∀ j u, (rowC l)[j]? = some u → w.cell? ⟨b, off + j, none⟩ = some u)
theorem Toks.below {w w' : World} {A : Option Addr} {n : Nat} {l : List Tok} (h : Toks w A n l) (hb : Below w.heap.size w w') : Toks w' A n l := by
  refine ⟨h.1, fun hn => ?_⟩
  obtain ⟨b, off, h1, h2, h3⟩ := h.2 hn
  exact ⟨b, off, h1, by have := hb.size; omega, fun j u hu => (hb.cell (p := ⟨b, off + j, none⟩) h2).trans (h3 j u hu)⟩
theorem Toks.of_own {w : World} {B e : Nat} {A : Option Addr} {n c : Nat} {l : List Tok} (h : w.ownsRow B e 4 (.slice A n c) l.length (rowC l)) : Toks w A n l := by
  rcases h.2 with ⟨hv, h0⟩ | ⟨g, cap, cur, hv, _, hg, _⟩
  · injection hv with h1 h2 h3
    exact ⟨by omega, fun hn => by omega⟩
  · injection hv with h1 h2 h3
    subst h1
    refine ⟨h2, fun _ => ⟨g, 0, rfl, (Array.getElem?_eq_some_iff.1 hg).1, fun j u hu => ?_⟩⟩
    have := h.cells (g := g) rfl j u hu
    rw [Addr.add_lit] at this
    exact this
theorem rowC_at (l : List Tok) : ∀ (k : Nat) (hk : k < l.length), (rowC l)[k * 4]? = some (.int .i64 l[k].kind) ∧ (rowC l)[k * 4 + 1]? = some (.string ⟨l[k].text.toArray⟩) ∧ (rowC l)[k * 4 + 2]? = some (.int .i64 l[k].val) ∧ (rowC l)[k * 4 + 3]? = some (.int .i64 l[k].loc) := by
  induction l with
  | nil => intro k hk; simp at hk
  | cons t r ih =>
    intro k hk
    cases k with
    | zero => exact ⟨rfl, rfl, rfl, rfl⟩
    | succ k =>
      have := ih k (by simpa using hk)
      have e : rowC (t :: r) = tokC t ++ rowC r := by simp [rowC]
      have h4 : (tokC t).length = 4 := rfl
      simp only [List.getElem_cons_succ]
      rw [e]
      refine ⟨?_, ?_, ?_, ?_⟩
      all_goals rw [List.getElem?_append_right (by rw [h4]; omega), h4]
      · rw [show (k + 1) * 4 - 4 = k * 4 from by omega]; exact this.1
      · rw [show (k + 1) * 4 + 1 - 4 = k * 4 + 1 from by omega]; exact this.2.1
      · rw [show (k + 1) * 4 + 2 - 4 = k * 4 + 2 from by omega]; exact this.2.2.1
      · rw [show (k + 1) * 4 + 3 - 4 = k * 4 + 3 from by omega]; exact this.2.2.2
def JoinRel (l : List Tok) (w : World) (p i : Value) (wr : World) : Prop :=
  ∃ (k : Nat) (acc : List UInt8) (pb : Bool), k ≤ l.length ∧ i = .int .i64 k ∧ p = .bool pb ∧ Lib.IsBuilderF 92 5 w.heap.size w.heap.size (Lib.byteCells acc) wr ∧ Below w.heap.size w wr ∧ Hid (acc ++ joinS pb (l.drop k) = joinS true l)
/-- The cells of one token of a slice. -/
theorem Toks.at_ {w : World} {A : Option Addr} {n k : Nat} {l : List Tok} (h : Toks w A n l) (hk : k < n) : ∃ b off t x, A = some ⟨b, off, none⟩ ∧ b < w.heap.size ∧ l[k]? = some t ∧ x = (⟨t.text.toArray⟩ : ByteArray) ∧
    w.cell? ⟨b, off + k * 4, none⟩ = some (.int .i64 t.kind) ∧ w.cell? ⟨b, off + k * 4 + 1, none⟩ = some (.string x) ∧ w.cell? ⟨b, off + k * 4 + 2, none⟩ = some (.int .i64 t.val) ∧ w.cell? ⟨b, off + k * 4 + 3, none⟩ = some (.int .i64 t.loc) := by
  obtain ⟨b, off, h1, h2, h3⟩ := h.2 (by omega)
  have hk' : k < l.length := by have := h.1; omega
  obtain ⟨c0, c1, c2, c3⟩ := rowC_at l k hk'
  exact ⟨b, off, l[k], _, h1, h2, List.getElem?_eq_getElem hk', rfl, h3 _ _ c0, by rw [Nat.add_assoc]; exact h3 _ _ c1, by rw [Nat.add_assoc]; exact h3 _ _ c2, by rw [Nat.add_assoc]; exact h3 _ _ c3⟩
theorem kept_cell {w w1 : World} {b k c : Nat} {cs : Array Value} (h : Lib.OthersKept 5 (some b) w w1) (hk : w.heap[k]? = some (.cells cs 73 (0, 0))) (hne : k ≠ b) : w1.cell? ⟨k, c, none⟩ = cs[c]? :=
  Lib.cell_of_heap (h k _ hk (by simpa using hne) (by intro c fz e; injection e with _ e; exact absurd e (by decide))) c
theorem byteCells_snoc (acc : List UInt8) (c : UInt8) : Lib.byteCells acc ++ [Value.int .u8 c.toNat] = Lib.byteCells (acc ++ [c]) := by simp [Lib.byteCells]
theorem byteCells_more (acc l : List UInt8) : Lib.byteCells acc ++ Lib.strCells ⟨l.toArray⟩ = Lib.byteCells (acc ++ l) := by simp [Lib.byteCells, Lib.strCells]
set_option maxHeartbeats 1000000 in
theorem join_any (A : Option Addr) (c : Nat) (l : List Tok) (w : World) (ht : Toks w A l.length l) (hl : l.length ≤ 1000000) (hz : (joinS true l).length ≤ 140737488355328) :
    Calls Tryz.prog 16 #[.slice A l.length c] w fun e w' => e = .returned (.string ⟨(joinS true l).toArray⟩) ∧ Below w.heap.size w w' := by
  go_enter Tryz.func16, Tryz.ntmps16
  go_wp2
  go_loopw [4, 6, 7, 10] (fun p _ _ i wr => JoinRel l w p i wr) (fun _ _ _ i _ => l.length - (intOf i).toNat)
  case atStart => exact ⟨0, [], true, Nat.zero_le _, rfl, rfl, Lib.IsBuilderF.of (Lib.fresh_isBuilder _ _ w), (Below.refl _ _).alloc (Nat.le_refl _) _, rfl⟩
  case round =>
    obtain ⟨k, acc, pb, hk, rfl, rfl, hbld, hbel, HR⟩ := hrel
    have hsz := hbel.size
    have hb0 : w.heap.size < wr.heap.size := by rcases hbld with h | h <;> exact h.lt
    by_cases hlt : k < l.length
    · obtain ⟨b, off, t, x, rfl, hbw, htk, hx, c0, c1, c2, c3⟩ := ht.at_ hlt
      rw [← hbel.cell (p := ⟨b, _, none⟩) hbw] at c0 c1 c2 c3
      have hj := join_drop pb htk
      have HX : Hid (x = (⟨t.text.toArray⟩ : ByteArray)) := hx
      have hxl : x.toList = t.text := by rw [hx, Lib.toList_data]
      clear hx
      have hlen : acc.length + (joinS pb (l.drop k)).length ≤ 140737488355328 := by rw [← List.length_append, HR.out]; exact hz
      cases hsg : (t.text == [59]) with
      | false =>
        have hx59 : (x.toList == [59]) = false := by rw [hxl]; exact hsg
        have HS := Lib.hid hsg
        have HXL := Lib.hid hxl
        rw [hsg] at hj
        clear hsg hxl
        cases pb with
        | false =>
          simp only [Bool.not_false, Bool.and_self, if_true, Bool.false_eq_true, if_false, List.nil_append] at hj
          have HR' : Hid ((acc ++ [32] ++ t.text) ++ joinS false (l.drop (k + 1)) = joinS true l) := Lib.hid (by rw [← HR.out, hj]; simp)
          rw [hj] at hlen
          simp only [List.length_append, List.length_cons, List.length_nil] at hlen
          have hxs : x.size = t.text.length := by rw [Lib.size_eq, ← Lib.toList_data, HXL.out]
          have hlen1 : (Lib.byteCells acc).length + 1 ≤ 140737488355328 := by rw [Lib.byteCells_length]; omega
          have hlen2 : (Lib.byteCells (acc ++ [32])).length + x.size ≤ 140737488355328 := by rw [Lib.byteCells_length, hxs, List.length_append]; simp only [List.length_cons, List.length_nil]; omega
          clear hj HR hxs
          go_wp2_with (first
            | (go_at_call 36; refine (bld_byte w.heap.size w.heap.size _ 32 _ (hbld.alloc _) hlen1 (by simp; omega)).mono ?_; rintro e w1 ⟨rfl, hb1, hbe1, hok1⟩; have k1 : w1.cell? ⟨wr.heap.size, 1, none⟩ = some (.string x) := kept_cell hok1 (heap_alloc_new wr _) (by omega); have hz1 := hbe1.size; rw [show (32 : Int) = ((32 : UInt8).toNat : Int) from rfl, byteCells_snoc] at hb1)
            | (go_at_call 37; refine (bld_string w.heap.size w.heap.size _ x _ (.inr hb1) hlen2 (by simp at hz1; omega)).mono ?_; rintro e w2 ⟨rfl, hb2, hbe2, hok2⟩))
          go_roundw
          case rel =>
            have h1 : Lib.byteCells (acc ++ [32]) ++ Lib.strCells x = Lib.byteCells (acc ++ [32] ++ t.text) := by rw [HX.out]; exact byteCells_more _ _
            rw [h1] at hb2
            exact ⟨k + 1, acc ++ [32] ++ t.text, false, hlt, by go_num, rfl, .inr hb2, ((hbel.alloc hsz _).trans hbe1).trans hbe2, HR'⟩
          case measure => simp [intOf]; omega
        | true =>
          simp only [Bool.not_true, Bool.false_and, Bool.false_eq_true, if_false, List.nil_append] at hj
          have HR' : Hid ((acc ++ t.text) ++ joinS false (l.drop (k + 1)) = joinS true l) := Lib.hid (by rw [← HR.out, hj]; simp)
          rw [hj] at hlen
          simp only [List.length_append] at hlen
          have hxs : x.size = t.text.length := by rw [Lib.size_eq, ← Lib.toList_data, HXL.out]
          have hlen' : (Lib.byteCells acc).length + x.size ≤ 140737488355328 := by rw [Lib.byteCells_length, hxs]; omega
          clear hj HR hxs
          go_wp2_with (first
            | (go_at_call 37; refine (bld_string w.heap.size w.heap.size _ x _ (hbld.alloc _) hlen' (by simp; omega)).mono ?_; rintro e w1 ⟨rfl, hb1, hbe1, hok1⟩))
          go_roundw
          case rel =>
            have h1 : Lib.byteCells acc ++ Lib.strCells x = Lib.byteCells (acc ++ t.text) := by rw [HX.out]; exact byteCells_more _ _
            rw [h1] at hb1
            exact ⟨k + 1, acc ++ t.text, false, hlt, by go_num, rfl, .inr hb1, (hbel.alloc hsz _).trans hbe1, HR'⟩
          case measure => simp [intOf]; omega
      | true =>
        have hx59 : (x.toList == [59]) = true := by rw [hxl]; exact hsg
        have HXL := Lib.hid hxl
        rw [hsg] at hj
        clear hsg hxl
        simp only [Bool.not_true, Bool.and_false, Bool.false_eq_true, if_false, if_true, List.nil_append] at hj
        have HR' : Hid ((acc ++ t.text ++ [10]) ++ joinS true (l.drop (k + 1)) = joinS true l) := Lib.hid (by rw [← HR.out, hj]; simp)
        rw [hj] at hlen
        simp only [List.length_append, List.length_cons, List.length_nil] at hlen
        have hxs : x.size = t.text.length := by rw [Lib.size_eq, ← Lib.toList_data, HXL.out]
        have hlen1 : (Lib.byteCells acc).length + x.size ≤ 140737488355328 := by rw [Lib.byteCells_length, hxs]; omega
        have hlen2 : (Lib.byteCells (acc ++ t.text)).length + 1 ≤ 140737488355328 := by rw [Lib.byteCells_length, List.length_append]; omega
        have h1 : Hid (Lib.byteCells acc ++ Lib.strCells x = Lib.byteCells (acc ++ t.text)) := Lib.hid (by rw [HX.out]; exact byteCells_more _ _)
        clear hj HR hxs
        cases pb
        all_goals
          go_wp2_with (first
            | (go_at_call 37; refine (bld_string w.heap.size w.heap.size _ x _ (hbld.alloc _) hlen1 (by simp; omega)).mono ?_; rintro e w1 ⟨rfl, hb1, hbe1, hok1⟩; have hz1 := hbe1.size; rw [h1.out] at hb1)
            | (go_at_call 36; refine (bld_byte w.heap.size w.heap.size _ 10 _ (.inr hb1) hlen2 (by simp at hz1; omega)).mono ?_; rintro e w2 ⟨rfl, hb2, hbe2, hok2⟩))
          go_roundw
          case rel =>
            rw [show (10 : Int) = ((10 : UInt8).toNat : Int) from rfl, byteCells_snoc] at hb2
            exact ⟨k + 1, acc ++ t.text ++ [10], true, hlt, by go_num, rfl, .inr hb2, ((hbel.alloc hsz _).trans hbe1).trans hbe2, HR'⟩
          case measure => simp [intOf]; omega
    · have HF : Hid (acc = joinS true l) := Lib.hid (by rw [← HR.out, List.drop_eq_nil_of_le (by omega)]; simp [joinS])
      clear HR
      go_wp2_with (first
        | (go_at_call 38; refine (bld_told w.heap.size w.heap.size acc _ hbld hsz).mono ?_; rintro e w1 ⟨rfl, _, hbe1, _⟩))
      go_ret
      exact ⟨by rw [← HF.out]; rfl, hbel.trans hbe1⟩
end Go.Proofs.YtigbceankmfaeaaGreatDoor.Lx
