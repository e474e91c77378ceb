/-
  Contracts of the law's own copy of tokens, of the document's Same; plain: Name by tokens.
-/
import Derived.Test.YtfainhgonaghfaaRefM
namespace Go.Proofs.Ytfainhgonaghfaa
open Go.RowKit

theorem infoRef' : (Try.prog.info? 44).map (fun i => (i.zero, i.size, i.bytes)) = some (some (.agg #[.int .i64 0, .string ⟨#[]⟩, .int .i64 0, .int .i64 0]), 4, 40) := by kernel_rfl

def OwnRel (l : List Tok) (w : World) (v i : Value) (wr : World) : Prop :=
  ∃ k : Nat, k ≤ l.length ∧ i = .int .i64 k ∧ wr.ownsRow w.heap.size 44 4 v k (rowC (l.take k)) ∧ Below w.heap.size w wr

theorem own_next {w2 : World} {B e : Nat} {v : Value} {l : List Tok} {t : Tok} {k : Nat} {x : ByteArray} (htk : l[k]? = some t) (hx : x = ⟨t.text.toArray⟩) (h : w2.ownsRow B e 4 v (k + 1) (rowC (l.take k) ++ [.int .i64 t.kind, .string x, .int .i64 t.val, .int .i64 t.loc])) :
    w2.ownsRow B e 4 v (k + 1) (rowC (l.take (k + 1))) := by
  have hs : l.take (k + 1) = l.take k ++ [t] := by
    obtain ⟨hk, rfl⟩ := List.getElem?_eq_some_iff.1 htk
    exact List.take_succ_eq_append_getElem hk
  rw [hs, rowC_snoc]
  subst hx
  exact h
theorem own_one {W : World} {a b c d : Value} {T n : Nat} (hn : n = W.heap.size) : ∀ j u, [a, b, c, d][j]? = some u → (W.alloc (.cells #[a, b, c, d] T)).cell? ((⟨n, 0, none⟩ : Addr).add j) = some u := by
  subst hn
  intro j u hj
  match j, hj with
  | 0, hj => simp at hj; subst hj; simp [Addr.add]
  | 1, hj => simp at hj; subst hj; simp [Addr.add]
  | 2, hj => simp at hj; subst hj; simp [Addr.add]
  | 3, hj => simp at hj; subst hj; simp [Addr.add]
  | n + 4, hj => simp at hj
theorem own_cells (a b c : Int) (x : ByteArray) : ∀ u ∈ [Value.int .i64 a, .string x, .int .i64 b, .int .i64 c], u.oneCell' = true := by
  intro u hu; simp at hu; rcases hu with rfl | rfl | rfl | rfl <;> rfl

set_option maxHeartbeats 1000000 in
theorem own_any (A : Option Addr) (c : Nat) (l : List Tok) (w : World) (ht : Toks w A l.length l) (hl : l.length ≤ 1000000) :
    Calls Try.prog 12 #[.slice A l.length c] w fun e w' => ∃ v, e = .returned v ∧ w'.ownsRow w.heap.size 44 4 v l.length (rowC l) ∧ Below w.heap.size w w' := by
  obtain ⟨i0, hi, hz0, hz1, hz2⟩ := info_parts infoRef'
  have HI := Lib.hid hi
  have HZ0 := Lib.hid hz0
  have HZ1 := Lib.hid hz1
  have HZ2 := Lib.hid hz2
  clear hi hz0 hz1 hz2
  go_enter Try.func12, Try.ntmps12
  go_wp2
  go_loopw [3, 4, 8] (fun v _ i wr => OwnRel l w v i wr) (fun _ _ i _ => l.length - (intOf i).toNat)
  case atStart => exact ⟨0, Nat.zero_le _, rfl, World.ownsRow_made w #[] 0 (Nat.le_refl _) (Nat.zero_le _) (by simp), (Below.refl _ _).alloc (Nat.le_refl _) _⟩
  case round =>
    obtain ⟨k, hk, rfl, hown, hbel⟩ := hrel
    have hbz := hbel.size
    by_cases hlt : k < l.length
    · obtain ⟨b, off, t, x, rfl, hbw, htk, hx, c0, c1, c2, c3⟩ := ht.at_ hlt
      rw [← hbel.cell (p := ⟨b, _, none⟩) hbw] at c0 c1 c2 c3
      have HK := Lib.hid htk
      have HX := Lib.hid hx
      obtain ⟨va, vc, rfl⟩ := own_slice hown
      have HO := Lib.hid hown
      clear htk hx hown
      go_wp2_with (first
        | (at_builtin; refine wpList_append_own _ rfl (.tmp 11) (.tmp 16) 27 rfl w.heap.size 44 i0 _ 4 40 Try.underlying27 HI.out HZ0.out HZ1.out HZ2.out rfl (by omega) _ k _ rfl (HO.out.alloc _) ⟨wr.heap.size, 0, none⟩ 1 1 [.int .i64 t.kind, .string x, .int .i64 t.val, .int .i64 t.loc] rfl rfl (own_one rfl) (own_cells _ _ _ _) (by unfold maxLen; omega) (by omega) (by simp; omega) ?_))
      intro v' w2 hown' hgrow _
      have HO' := Lib.hid (own_next HK.out HX.out hown')
      have hb2 : Below w.heap.size w w2 := (hbel.alloc hbz _).grown hgrow (by simp; omega) fun k hk => (HO.out.lt k hk).1
      clear hown' hgrow
      go_wp2
      go_roundw
      case rel => exact ⟨k + 1, hlt, by go_num, HO'.out, hb2⟩
      case measure => simp [intOf]; omega
    · obtain rfl : k = l.length := by omega
      rw [List.take_length] at hown
      go_wp2_with fail
      go_ret
      exact ⟨_, rfl, hown, hbel⟩

/-- A token held against itself. -/
theorem ref_same (a b c : Int) (x : ByteArray) (w : World) :
    (binOp .neq 44 (.agg #[.int .i64 a, .string x, .int .i64 b, .int .i64 c]) (.agg #[.int .i64 a, .string x, .int .i64 b, .int .i64 c])).run Try.prog w = .ok (.bool false) w := by
  have u3 := Try.underlying3
  have a3 := Try.isAgg3
  have z3 := Try.sizeOf3
  have u9 := Try.underlying9
  have a9 := Try.isAgg9
  have z9 := Try.sizeOf9
  have hS : Try.prog.underlying 44 = some (.struct (Try.prog.fieldsOf 44)) := by kernel_rfl
  have hp : Try.prog.stoodInHeld 44 = false := by kernel_rfl
  rw [run_neq_struct, show (10000 : Nat) = 9999 + 1 from rfl, run_equalIn_agg w 9999 44 _ _ hS hp]
  simp only [Program.fieldsOf, Try.underlying44]
  go_simp

set_option maxHeartbeats 1000000 in
theorem same_any (A A' : Option Addr) (c c' : Nat) (l : List Tok) (w : World) (ht : Toks w A l.length l) (ht' : Toks w A' l.length l) (hl : l.length ≤ 1000000) :
    Calls Try.prog 11 #[.slice A l.length c, .slice A' l.length c'] w fun e w' => e = .returned (.bool true) ∧ Below w.heap.size w w' := by
  have hm : Try.prog.eqGuardType Try.prog.depth 44 = false := by kernel_rfl
  have hne := ref_same
  have e1 : ((l.length : Int) != (l.length : Int)) = false := by simp
  go_enter Try.func11, Try.ntmps11
  go_wp2
  go_loopw [5] (fun i wr => ∃ k : Nat, k ≤ l.length ∧ i = .int .i64 k ∧ Below w.heap.size w wr) (fun i _ => l.length - (intOf i).toNat)
  case atStart => exact ⟨0, Nat.zero_le _, rfl, Below.refl _ _⟩
  case round =>
    obtain ⟨k, hk, rfl, hbel⟩ := hrel
    by_cases hlt : k < l.length
    · obtain ⟨b, off, t, x, rfl, hbw, htk, hx, c0, c1, c2, c3⟩ := ht.at_ hlt
      obtain ⟨b', off', t', x', rfl, hbw', htk', hx', d0, d1, d2, d3⟩ := ht'.at_ hlt
      rw [htk] at htk'
      injection htk' with htk'
      subst htk'
      rw [← hx] at hx'
      subst hx'
      rw [← hbel.cell (p := ⟨b, _, none⟩) hbw] at c0 c1 c2 c3
      rw [← hbel.cell (p := ⟨b', _, none⟩) hbw'] at d0 d1 d2 d3
      clear hx htk
      go_wp2_with fail
      go_quiet (fail)
      clear c0 c1 c2 c3 d0 d1 d2 d3
      go_wp2_with fail
      go_roundw
      case rel => exact ⟨k + 1, hlt, by go_num, below_draws hbel nq⟩
      case measure => simp [intOf]; omega
    · go_wp2_with fail
      go_ret
      exact ⟨rfl, hbel⟩
end Go.Proofs.Ytfainhgonaghfaa
