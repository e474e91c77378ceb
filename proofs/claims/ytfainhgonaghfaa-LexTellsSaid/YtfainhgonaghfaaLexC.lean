/-
  Contract of lex.Lex: the tokens of any text, up to some size, or where it has none.
-/
import Derived.Test.YtfainhgonaghfaaLexB
namespace Go.Proofs.Ytfainhgonaghfaa
open Go.RowKit

def tokC (t : Tok) : List Value := [.int .i64 t.kind, .string ⟨t.text.toArray⟩, .int .i64 t.val, .int .i64 t.loc]
def rowC (l : List Tok) : List Value := l.flatMap tokC
theorem rowC_length (l : List Tok) : (rowC l).length = l.length * 4 := by
  induction l with
  | nil => rfl
  | cons t r ih => simp only [rowC, List.flatMap_cons, List.length_append, List.length_cons] at ih ⊢; rw [ih]; simp [tokC]; omega
theorem rowC_snoc (l : List Tok) (t : Tok) : rowC (l ++ [t]) = rowC l ++ tokC t := by simp [rowC]

theorem infoTok : (Try.prog.info? 35).map (fun i => (i.zero, i.size, i.bytes)) = some (some (.agg #[.int .i64 0, .string ⟨#[]⟩, .int .i64 0, .int .i64 0]), 4, 40) := by kernel_rfl

/-- What Lex hands back. -/
def LexOf (r : List Tok × Nat × Nat) (w : World) (e : Ending) (w' : World) : Prop :=
  ∃ v : Value, e = .returned (.tuple #[v, .int .i64 r.2.1, .int .i64 r.2.2]) ∧ w'.ownsRow w.heap.size 35 4 v r.1.length (rowC r.1) ∧ Below w.heap.size w w'

def LexRel (s : ByteArray) (w : World) (v i e : Value) (wr : World) : Prop :=
  ∃ (k : Nat) (l : List Tok), k ≤ s.size ∧ i = .int .i64 k ∧ e = .int .i64 0 ∧ wr.ownsRow w.heap.size 35 4 v l.length (rowC l) ∧ Below w.heap.size w wr ∧ l.length ≤ 5000 ∧ Hid (lexS (s.data.toList.drop k) 0 k l = lexL s.data.toList)

theorem lexOf_err {s : ByteArray} {w w' : World} {k c : Nat} (h : lexL s.data.toList = ([], k, c)) (hb : Below w.heap.size w w') : LexOf (lexL s.data.toList) w (.returned (.tuple #[.slice none 0 0, .int .i64 k, .int .i64 c])) w' := by
  rw [h]; exact ⟨_, rfl, World.ownsRow_nil _ _ _ _, hb⟩
theorem lexOf_ok {s : ByteArray} {w w' : World} {l : List Tok} {v : Value} (h : lexL s.data.toList = (l, 0, 0)) (hown : w'.ownsRow w.heap.size 35 4 v l.length (rowC l)) (hb : Below w.heap.size w w') :
    LexOf (lexL s.data.toList) w (.returned (.tuple #[v, .int .i64 0, .int .i64 0])) w' := by
  rw [h]; exact ⟨_, rfl, hown, hb⟩
theorem own_slice {w : World} {B e z n : Nat} {v : Value} {xs : List Value} (h : w.ownsRow B e z v n xs) : ∃ ao cap, v = .slice ao n cap := by
  rcases h.2 with ⟨hv, h0⟩ | ⟨g, cap, cur, hv, _⟩
  · exact ⟨none, 0, by rw [hv, h0]⟩
  · exact ⟨_, _, hv⟩

theorem own_below {w w1 : World} {B e z n : Nat} {v : Value} {xs : List Value} (h : w.ownsRow B e z v n xs) (hb : Below w.heap.size w w1) : w1.ownsRow B e z v n xs :=
  h.kept (row := none) ⟨hb.os, hb.tape, hb.output, hb.size, fun k hk _ => hb.block k hk⟩ (by cases hv : v.ownBlock <;> simp)
theorem own_apart {w : World} {B e z n : Nat} {v : Value} {xs : List Value} (h : w.ownsRow B e z v n xs) {k : Nat} (hk : w.heap.size ≤ k) : some k ≠ v.ownBlock := by
  intro e; have := (h.lt k e.symm).2; omega
/-- Behind the append of a token: what its own block holds, and that all below is as it was. -/
theorem lex_behind {w wr w1 w2 : World} {o1 o2 : Obj} {e z n c : Nat} {v u : Value} {xs : List Value} (hb : Below w.heap.size w wr) (hb1 : Below wr.heap.size wr w1) (hown : wr.ownsRow w.heap.size e z v n xs) (hg : ((w1.alloc o1).alloc o2).grownBy w2 v.ownBlock)
    (hc : (w1.alloc o1).cell? ⟨w1.heap.size, c, none⟩ = some u) : w2.cell? ⟨w1.heap.size, c, none⟩ = some u ∧ Below w.heap.size w w2 := by
  have z1 := hb.size
  have z2 := hb1.size
  refine ⟨hg.cell ((World.cell?_alloc_lt _ _ _ (by simp)).trans hc) (own_apart (own_below hown hb1) (Nat.le_refl _)), ?_⟩
  exact (((hb.trans (hb1.mono z1)).alloc (by omega) _).alloc (by simp; omega) _).grown hg (by simp; omega) fun k hk => (hown.lt k hk).1

set_option maxHeartbeats 1000000 in
theorem lex_any (s : ByteArray) (w : World) (hs : s.size ≤ 140737488351232) : Calls Try.prog 9 #[.string s] w (LexOf (lexL s.data.toList) w) := by
  obtain ⟨i0, hi, hz0, hz1, hz2⟩ := info_parts infoTok
  have HI := Lib.hid hi
  have HZ0 := Lib.hid hz0
  have HZ1 := Lib.hid hz1
  have HZ2 := Lib.hid hz2
  clear hi hz0 hz1 hz2
  go_enter Try.func9, Try.ntmps9
  go_wp2
  go_step3
  go_wp2
  go_step3
  go_wp2
  go_loopw [5, 6, 7] (fun v i e wr => LexRel s w v i e wr) (fun _ i _ _ => s.size - (intOf i).toNat)
  case atStart => exact ⟨0, [], Nat.zero_le _, rfl, rfl, World.ownsRow_nil _ _ _ _, Below.refl _ _, by simp, rfl⟩
  case round =>
    obtain ⟨k, l, hk, rfl, rfl, hown, hbel, hl, HR⟩ := hrel
    by_cases hlt : k < s.size
    · cases hg : gapB s[k] with
      | true =>
        have HR' : Hid (lexS (s.data.toList.drop (k + 1)) 0 (k + 1) l = lexL s.data.toList) := by rw [← HR.out, lex_gap (by simpa using hlt) hg]; exact rfl
        have C17 : Hid (∀ W, Calls Try.prog 17 #[.int .u8 s[k].toNat] W fun e w' => e = .returned (.bool true) ∧ W = w') := fun W => by rw [← hg]; exact isGap_any _ W
        clear HR hg
        go_wp2_with (first
          | (go_at_call 17; refine (C17.out _).mono ?_; rintro e w' ⟨rfl, rfl⟩))
        go_roundw
        case rel => exact ⟨k + 1, l, hlt, by go_num, rfl, hown, hbel, hl, HR'⟩
        case measure => simp [intOf]; omega
      | false =>
        have C17 : Hid (∀ W, Calls Try.prog 17 #[.int .u8 s[k].toNat] W fun e w' => e = .returned (.bool false) ∧ W = w') := fun W => by rw [← hg]; exact isGap_any _ W
        have HG := Lib.hid hg
        clear hg
        cases ht : takeL (s.data.toList.drop k) k with
        | none =>
          have C18 : Hid (∀ W, Calls Try.prog 18 #[.string s, .int .i64 k] W fun e w' => e = .returned (.tuple #[.agg #[.int .i64 0, .string ⟨#[]⟩, .int .i64 0, .int .i64 0], .bool false]) ∧ Below W.heap.size W w') := fun W => (take_any s k W hlt hs).mono fun e w' h => by unfold TakeOf at h; rw [ht] at h; exact h
          have HF : Hid (lexL s.data.toList = ([], k, 2)) := by rw [← HR.out]; exact lex_form (by simpa using hlt) HG.out ht
          clear ht HR
          go_wp2_with (first
            | (go_at_call 17; refine (C17.out _).mono ?_; rintro e w' ⟨rfl, rfl⟩)
            | (go_at_call 18; refine (C18.out _).mono ?_; rintro e w1 ⟨rfl, hb1⟩))
          rw [Exit.noGoto_ret]
          go_ret3
          exact lexOf_err HF.out ((hbel.trans (hb1.mono hbel.size)).alloc (by have := hbel.size; have := hb1.size; omega) _)
        | some t =>
          obtain ⟨t1, t2⟩ := takeL_len ht
          rw [List.length_drop, bytes_len] at t2
          have C18 : Hid (∀ W, Calls Try.prog 18 #[.string s, .int .i64 k] W fun e w' => e = .returned (.tuple #[.agg #[.int .i64 t.kind, .string ⟨t.text.toArray⟩, .int .i64 t.val, .int .i64 t.loc], .bool true]) ∧ Below W.heap.size W w') := fun W => (take_any s k W hlt hs).mono fun e w' h => by unfold TakeOf at h; rw [ht] at h; exact h
          by_cases h5 : l.length = 5000
          · have HF : Hid (lexL s.data.toList = ([], k, 4)) := by rw [← HR.out]; exact lex_many (by simpa using hlt) HG.out ht h5
            obtain ⟨ao, cap, rfl⟩ := own_slice hown
            have h5' : ((l.length : Int) == 5000) = true := by rw [beq_iff_eq]; omega
            clear ht HR hown h5 hl
            go_wp2_with (first
              | (go_at_call 17; refine (C17.out _).mono ?_; rintro e w' ⟨rfl, rfl⟩)
              | (go_at_call 18; refine (C18.out _).mono ?_; rintro e w1 ⟨rfl, hb1⟩))
            rw [Exit.noGoto_ret]
            go_ret3
            exact lexOf_err HF.out ((hbel.trans (hb1.mono hbel.size)).alloc (by have := hbel.size; have := hb1.size; omega) _)
          · have HR' : Hid (lexS (s.data.toList.drop (k + t.text.length)) 0 (k + t.text.length) (l ++ [t]) = lexL s.data.toList) := by rw [← HR.out]; exact (lex_tok (by simpa using hlt) HG.out ht h5).symm
            have h5' : ((l.length : Int) == 5000) = false := by rw [beq_eq_false_iff_ne]; omega
            have hl' : l.length + 1 ≤ 5000 := by omega
            obtain ⟨ao, cap, rfl⟩ := own_slice hown
            have HO := Lib.hid hown
            clear ht HR h5 hl hown
            go_wp2_with (first
              | (go_at_call 17; refine (C17.out _).mono ?_; rintro e w' ⟨rfl, rfl⟩)
              | (go_at_call 18; refine (C18.out _).mono ?_; rintro e w1 ⟨rfl, hb1⟩)
              | (at_builtin; refine wpList_append_own _ rfl (.tmp 33) (.tmp 35) 23 rfl w.heap.size 35 i0 _ 4 40 Try.underlying23 HI.out HZ0.out HZ1.out HZ2.out rfl (by omega) _ _ _ rfl (((own_below HO.out hb1).alloc _).alloc _) ⟨w1.heap.size + 1, 0, none⟩ 1 1 (tokC t) rfl rfl ?c1 ?c2 ?c3 ?c4 ?c5 ?_))
            case c1 =>
              intro j u hj
              match j, hj with
              | 0, hj => simp [tokC] at hj; subst hj; simp [Addr.add]
              | 1, hj => simp [tokC] at hj; subst hj; simp [Addr.add]
              | 2, hj => simp [tokC] at hj; subst hj; simp [Addr.add]
              | 3, hj => simp [tokC] at hj; subst hj; simp [Addr.add]
              | n + 4, hj => simp [tokC] at hj
            case c2 => intro u hu; simp [tokC] at hu; rcases hu with rfl | rfl | rfl | rfl <;> rfl
            case c3 => unfold maxLen; omega
            case c4 => omega
            case c5 => have := hbel.size; have := hb1.size; simp; omega
            intro v' w2 hown' hgrow _
            obtain ⟨hc, hb2⟩ := lex_behind (c := 1) hbel hb1 HO.out hgrow (by simp; rfl)
            rw [← rowC_snoc] at hown'
            have HO' : Hid (w2.ownsRow w.heap.size 35 4 v' (l ++ [t]).length (rowC (l ++ [t]))) := by rw [List.length_append]; exact hown'
            clear hown' hgrow
            go_wp2
            go_roundw
            case rel => exact ⟨k + t.text.length, l ++ [t], by omega, by go_num, rfl, HO'.out, hb2, by simpa using hl', HR'⟩
            case measure => simp [intOf]; omega
    · have HF : Hid (lexL s.data.toList = (l, 0, 0)) := by rw [← HR.out]; exact lex_end (by rw [bytes_len]; omega)
      clear HR
      go_wp2_with fail
      rw [Exit.noGoto_ret]
      go_ret3
      exact lexOf_ok HF.out hown hbel
end Go.Proofs.Ytfainhgonaghfaa
