/-
  Helpers that name no function of the program: cells, blocks, owned rows, searches, lists that are held against each other, copy of a list of structs. Contracts of lex.isLetter, isDigit, isInner, isGap, run, over any byte and any string.
-/
import Derived.Test.YtigbceankmfaeaaGreatDoorTbaa
import Derived.WalkKit
import Derived.WalkSpells
import Derived.WalkLawsBesides
import Derived.OwnWalk
import Derived.Lib.Hide
import Derived.Lib.Strings
import Derived.Laws.OwnMore
import Derived.Laws.CopyRow
import Derived.Shelf.Abstract
import Derived.Shelf.RegionOpen
import Derived.BigQuiet
import Derived.Deep.QuietTactic
import Derived.RegionTactic
import Derived.Outline
import Derived.LoopIn
import Derived.Test.YtigbceankmfaeaaGreatDoorProg
namespace Go.Proofs.YtigbceankmfaeaaGreatDoor.B
open Go.RowKit Go.Shelf
theorem ret_bool {a b : Bool} (h : a = b) : Ending.returned (.bool a) = .returned (.bool b) := by rw [h]
theorem ret_i64 {a b : Int} (h : a = b) : Ending.returned (.int .i64 a) = .returned (.int .i64 b) := by rw [h]
theorem mem_at {α : Type} [Inhabited α] {l : List α} {i : Nat} (h : i < l.length) : l[i]! ∈ l := by rw [getElem!_pos l i h]; exact List.getElem_mem h
theorem heap_new (w : World) (o : Obj) : (w.alloc o).heap[w.heap.size]? = some o := heap_alloc_new w o
theorem heap_old {w : World} {o : Obj} {k : Nat} {u : Option Obj} (h : k < w.heap.size) (hu : w.heap[k]? = u) : (w.alloc o).heap[k]? = u := (Below.heap_alloc w o k h).trans hu
theorem cell_blk {w : World} {b i : Nat} {cs : Array Value} {t : TypeId} {v : Value} (h : w.heap[b]? = some (.cells cs t (0, 0))) (hi : cs[i]? = some v) : w.cell? ⟨b, i, none⟩ = some v := by
  unfold World.cell?; simp only; rw [h]; exact hi
theorem frozen_blk {w : World} {b i : Nat} {cs : Array Value} {t : TypeId} (h : w.heap[b]? = some (.cells cs t (0, 0))) : w.frozen? ⟨b, i, none⟩ = false := by
  unfold World.frozen?; simp only; rw [h]; simp
theorem blk_set {w : World} {b i : Nat} {cs : Array Value} {t : TypeId} {v : Value} (h : w.heap[b]? = some (.cells cs t (0, 0))) : (w.setCell ⟨b, i, none⟩ v).heap[b]? = some (.cells (cs.setIfInBounds i v) t (0, 0)) := by
  simp [World.setCell, Array.getElem?_modify, h]
theorem blk_other {w : World} {b c i : Nat} {v : Value} (h : c ≠ b) : (w.setCell ⟨b, i, none⟩ v).heap[c]? = w.heap[c]? := Below.heap_setCell _ _ _ _ h
theorem blk_lt {w : World} {b : Nat} {o : Obj} (h : w.heap[b]? = some o) : b < w.heap.size := (Array.getElem?_eq_some_iff.1 h).1
theorem below_draws {B : Nat} {a w : World} (h : Below B a w) (n : Nat) : Below B a (w.drewN n) := ⟨h.os, h.tape, h.output, h.size, h.block⟩
theorem quiet_left {P : Program} {f : FuncId} {args : Array Value} {w : World} {n : Nat} {v : Value}
    (h : Calls P f args (w.drewN n) fun e w' => e = .returned v ∧ w.drewN n = w') : Calls P f args (w.drewN n) fun e w'' => e = .returned v ∧ ∃ m, w'' = w.drewN m :=
  h.mono fun _ _ ⟨he, hm⟩ => ⟨he, n, hm.symm⟩
theorem own_slice {w : World} {B e z n : Nat} {v : Value} {xs : List Value} (h : w.ownsRow B e z v n xs) : ∃ ao cap, v = .slice ao n cap := by
  rcases h.2 with ⟨hv, h0⟩ | ⟨g, cap, cur, hv, _⟩
  · exact ⟨none, 0, by rw [hv, h0]⟩
  · exact ⟨_, _, hv⟩
theorem own_below {w w1 : World} {B e z n : Nat} {v : Value} {xs : List Value} (h : w.ownsRow B e z v n xs) (hb : Below w.heap.size w w1) : w1.ownsRow B e z v n xs :=
  h.kept (row := none) ⟨hb.os, hb.tape, hb.output, hb.size, fun k hk _ => hb.block k hk⟩ (by cases hv : v.ownBlock <;> simp)
theorem own_base {w : World} {B B' e z n : Nat} {v : Value} {xs : List Value} (h : w.ownsRow B e z v n xs) (hB : B' ≤ B) : w.ownsRow B' e z v n xs := by
  refine ⟨h.1, ?_⟩
  rcases h.2 with h | ⟨g, cap, cur, h1, h2, h3⟩
  · exact .inl h
  · exact .inr ⟨g, cap, cur, h1, Nat.le_trans hB h2, h3⟩
theorem own_far {w : World} {B e z n b : Nat} {v : Value} {xs : List Value} {cs : Array Value} {T : TypeId} (hown : w.ownsRow B e z v n xs) (h : w.heap[b]? = some (.cells cs T (0, 0))) (he : e ≠ T) : v.ownBlock ≠ some b := by
  rcases hown.2 with ⟨rfl, _⟩ | ⟨g, cap, cur, rfl, _, hg, _⟩
  · intro hh; cases hh
  · intro hh
    simp only [Value.ownBlock, Option.some.injEq] at hh
    subst hh
    rw [h] at hg
    simp only [Option.some.injEq, Obj.cells.injEq] at hg
    exact he hg.2.1.symm
theorem own_set {w : World} {B e z n b i : Nat} {v : Value} {xs : List Value} (h : w.ownsRow B e z v n xs) (hne : v.ownBlock ≠ some b) (u : Value) : (w.setCell ⟨b, i, none⟩ u).ownsRow B e z v n xs :=
  h.kept (row := some b) ⟨rfl, rfl, rfl, by simp, fun k _ hk => Below.heap_setCell _ _ _ _ (fun e => hk (by rw [e]))⟩ (.inr hne)
theorem own_cap {w : World} {B e z n c : Nat} {A : Option Addr} {xs : List Value} (h : w.ownsRow B e z (.slice A n c) n xs) : n ≤ c ∧ (A = none → c = 0) := by
  rcases h.2 with ⟨hv, h0⟩ | ⟨g, cap, cur, hv, _, _, hn, _⟩
  · injection hv with _ h2 h3; exact ⟨by omega, fun _ => h3⟩
  · injection hv with h1 _ h3; exact ⟨by omega, fun e => by rw [e] at h1; cases h1⟩
/-- Where the first of some is of which p holds; below 0: nowhere. -/
def idxB {α : Type} (p : α → Bool) (l : List α) : Int := match l.findIdx? p with | some i => (i : Int) | none => -1
theorem idxB_hit {α : Type} [Inhabited α] {p : α → Bool} {l : List α} {k : Nat} (hk : k < l.length) (hp : p l[k]! = true) (h : ∀ j, j < k → p l[j]! = false) : idxB p l = k := by
  have : l.findIdx? p = some k := by
    rw [List.findIdx?_eq_some_iff_getElem]
    refine ⟨hk, by rw [← getElem!_pos l k hk]; exact hp, fun j hj => ?_⟩
    have := h j hj
    rw [getElem!_pos l j (by omega)] at this
    simp [this]
  simp [idxB, this]
theorem idxB_miss {α : Type} [Inhabited α] {p : α → Bool} {l : List α} (h : ∀ j, j < l.length → p l[j]! = false) : idxB p l = -1 := by
  have : l.findIdx? p = none := by
    rw [List.findIdx?_eq_none_iff]
    intro x hx
    obtain ⟨j, hj, rfl⟩ := List.getElem_of_mem hx
    rw [← getElem!_pos l j hj]; exact h j hj
  simp [idxB, this]
theorem idxB_any {α : Type} (p : α → Bool) (l : List α) : decide (0 ≤ idxB p l) = l.any p := by
  unfold idxB
  cases h : l.findIdx? p with
  | none =>
    rw [List.findIdx?_eq_none_iff] at h
    have : l.any p = false := by simpa using h
    simp [this]
  | some i =>
    obtain ⟨hi, hp, _⟩ := List.findIdx?_eq_some_iff_getElem.1 h
    have : l.any p = true := by rw [List.any_eq_true]; exact ⟨_, List.getElem_mem hi, hp⟩
    rw [this]; simp
theorem all_step {α : Type} [Inhabited α] {p : α → Bool} {l : List α} {k : Nat} (h : ∀ j, j < k → p l[j]! = false) (hk : p l[k]! = false) : ∀ j, j < k + 1 → p l[j]! = false := by
  intro j hj
  by_cases e : j = k
  · rw [e]; exact hk
  · exact h j (by omega)
def eqLB {α : Type} [Inhabited α] (p : α → α → Bool) (a b : List α) : Bool := decide (a.length = b.length) && (List.range a.length).all (fun i => p a[i]! b[i]!)
theorem eqLB_all {α : Type} [Inhabited α] {p : α → α → Bool} {a b : List α} (h : a.length = b.length) (hp : ∀ j, j < a.length → p a[j]! b[j]! = true) : eqLB p a b = true := by
  simp only [eqLB, decide_eq_true h, Bool.true_and, List.all_eq_true, List.mem_range]; exact hp
end Go.Proofs.YtigbceankmfaeaaGreatDoor.B

namespace Go.Proofs.YtigbceankmfaeaaGreatDoor.Lx
open Go.RowKit
theorem ret_bool {a b : Bool} (h : a = b) : Ending.returned (.bool a) = .returned (.bool b) := by rw [h]
set_option maxHeartbeats 400000 in
theorem isLetter_any (c : UInt8) (w : World) : Calls Tryz.prog 104 #[.int .u8 c.toNat] w fun e w' => e = .returned (.bool (letB c)) ∧ w = w' := by
  go_enter Tryz.func104, Tryz.ntmps104
  go_wp2
  all_goals go_ret
  all_goals exact ⟨ret_bool (by rw [Bool.eq_iff_iff]; simp [letB]; omega), rfl⟩
set_option maxHeartbeats 400000 in
theorem isDigit_any (c : UInt8) (w : World) : Calls Tryz.prog 105 #[.int .u8 c.toNat] w fun e w' => e = .returned (.bool (digB c)) ∧ w = w' := by
  go_enter Tryz.func105, Tryz.ntmps105
  go_wp2
  all_goals go_ret
  all_goals exact ⟨ret_bool (by rw [Bool.eq_iff_iff]; simp [digB]; omega), rfl⟩
set_option maxHeartbeats 400000 in
theorem isGap_any (c : UInt8) (w : World) : Calls Tryz.prog 34 #[.int .u8 c.toNat] w fun e w' => e = .returned (.bool (gapB c)) ∧ w = w' := by
  go_enter Tryz.func34, Tryz.ntmps34
  go_wp2
  all_goals go_ret
  all_goals exact ⟨ret_bool (by rw [Bool.eq_iff_iff]; simp [gapB]; omega), rfl⟩
set_option maxHeartbeats 400000 in
theorem isInner_any (c : UInt8) (w : World) : Calls Tryz.prog 103 #[.int .u8 c.toNat] w fun e w' => e = .returned (.bool (innB c)) ∧ w = w' := by
  go_enter Tryz.func103, Tryz.ntmps103
  go_wp2_with (first
    | (go_at_call 104; refine (isLetter_any _ _).mono ?_; rintro e w' ⟨rfl, rfl⟩)
    | (go_at_call 105; refine (isDigit_any _ _).mono ?_; rintro e w' ⟨rfl, rfl⟩))
  all_goals go_ret
  all_goals exact ⟨ret_bool (by rw [Bool.eq_iff_iff]; simp [innB, *]; try omega), rfl⟩
/-- run: all that a word could take. -/
def RunOf (s : ByteArray) (w : World) (e : Ending) (w' : World) : Prop := ∃ t : ByteArray, e = .returned (.string t) ∧ t.data.toList = runL s.data.toList ∧ w = w'
theorem bytes_len (s : ByteArray) : s.data.toList.length = s.size := by simp
theorem bytes_pre (s : ByteArray) (k : Nat) : (s.extract 0 k).data.toList = s.data.toList.take k := by simp
theorem run_ends {s : ByteArray} {k : Nat} {w : World} (hr : k ≤ (runL s.data.toList).length) (hs : ∀ hk : k < s.size, innB s[k] = false) : RunOf s w (.returned (.string (s.extract 0 k))) w :=
  ⟨_, rfl, by rw [bytes_pre]; exact (run_stop _ _ hr fun hk => hs (by simpa using hk)).symm, rfl⟩
set_option maxHeartbeats 400000 in
theorem run_any (s : ByteArray) (w : World) (hs : s.size ≤ 140737488355328) : Calls Tryz.prog 64 #[.string s] w (RunOf s w) := by
  go_enter Tryz.func64, Tryz.ntmps64
  go_wp2
  go_loop [3] (fun i => ∃ k : Nat, k ≤ s.size ∧ i = .int .i64 k ∧ k ≤ (runL s.data.toList).length) (fun i => s.size - (intOf i).toNat)
  case atStart => exact ⟨0, Nat.zero_le _, rfl, Nat.zero_le _⟩
  case round =>
    obtain ⟨k, hk, rfl, hr⟩ := hrel
    by_cases hlt : k < s.size
    · cases hin : innB s[k] with
      | true =>
        have hr' : k + 1 ≤ (runL s.data.toList).length := run_step _ k (by simpa using hlt) hin hr
        go_wp2_with (first
          | (go_at_call 103; refine (isInner_any _ _).mono ?_; rintro e w' ⟨rfl, rfl⟩))
        go_round
        case rel => exact ⟨k + 1, hlt, by go_num, hr'⟩
        case measure => simp [intOf]; omega
      | false =>
        have HF : RunOf s w (.returned (.string (s.extract 0 k))) w := run_ends hr fun _ => hin
        go_wp2_with (first
          | (go_at_call 103; refine (isInner_any _ _).mono ?_; rintro e w' ⟨rfl, rfl⟩))
        go_ret
        exact HF
    · have HF : RunOf s w (.returned (.string (s.extract 0 k))) w := run_ends hr fun h => absurd h hlt
      go_wp2_with fail
      go_ret
      exact HF
theorem full_facts {s : ByteArray} (h : 0 < s.size) : ¬ s.toList = [] ∧ s.toList.isEmpty = false := by
  rw [Lib.size_eq, ← Lib.toList_data] at h
  cases hl : s.toList with
  | nil => rw [hl] at h; simp at h
  | cons c r => simp
theorem empty_facts {s : ByteArray} (h : ¬ 0 < s.size) : s.toList = [] ∧ s.toList.isEmpty = true := by
  rw [Lib.size_eq, ← Lib.toList_data] at h
  cases hl : s.toList with
  | nil => simp
  | cons c r => rw [hl] at h; simp at h
theorem bytes_cons {s : ByteArray} (h : 0 < s.size) : s.data.toList = s[0] :: s.data.toList.tail := by
  have h' : 0 < s.data.toList.length := by simpa using h
  have := List.drop_eq_getElem_cons h'
  rw [List.drop_zero] at this
  rw [this]; rfl
theorem name_none {s : ByteArray} (h : ¬ 0 < s.size) : nameL s.data.toList = false := by
  rw [← Lib.toList_data, (empty_facts h).1]; rfl
theorem name_long {s : ByteArray} (h : ¬ s.size ≤ 20) : nameL s.data.toList = false := by
  have h0 : 0 < s.size := by omega
  have hl := bytes_len s
  rw [bytes_cons h0] at hl ⊢
  simp only [List.length_cons] at hl
  have : ¬ s.data.toList.tail.length < 20 := by omega
  rw [nameL, decide_eq_false this, Bool.false_and, Bool.false_and]
theorem name_first {s : ByteArray} (h0 : 0 < s.size) (h : letB s[0] = false) : nameL s.data.toList = false := by
  rw [bytes_cons h0]; simp [nameL, h]
theorem runL_full (l : List UInt8) : (runL l).length = l.length ↔ l.all innB = true := by
  induction l with
  | nil => simp [runL]
  | cons c r ih =>
    by_cases hc : innB c = true
    · rw [runL_cons c r hc]; simp [hc, ih]
    · rw [runL_none c r (by simpa using hc)]; simp [hc]
theorem name_all {s t : ByteArray} (h0 : 0 < s.size) (h1 : s.size ≤ 20) (h : letB s[0] = true) (ht : t.data.toList = runL s.data.toList) : ((t.size : Int) == (s.size : Int)) = nameL s.data.toList := by
  have hl := bytes_len s
  have hf := runL_full s.data.toList
  have hi : innB s[0] = true := by simp [innB, h]
  rw [Lib.size_eq t, ht, ← hl]
  rw [bytes_cons h0] at hf hl ⊢
  simp only [List.length_cons] at hl
  have : s.data.toList.tail.length < 20 := by omega
  simp only [List.all_cons, hi, Bool.true_and] at hf
  simp only [nameL, h, Bool.and_true]
  rw [decide_eq_true this, Bool.true_and]
  rw [Bool.eq_iff_iff, beq_iff_eq, ← hf]
  omega
set_option maxHeartbeats 400000 in
theorem name_any (s : ByteArray) (w : World) (hs : s.size ≤ 140737488355328) : Calls Tryz.prog 65 #[.string s] w fun e w' => e = .returned (.bool (nameL s.data.toList)) ∧ w = w' := by
  by_cases h0 : 0 < s.size
  · obtain ⟨f1, f2⟩ := full_facts h0
    by_cases h1 : s.size ≤ 20
    · cases hin : letB s[0] with
      | true =>
        go_enter Tryz.func65, Tryz.ntmps65
        go_wp2_with (first
          | (go_at_call 104; refine (isLetter_any _ _).mono ?_; rintro e w' ⟨rfl, rfl⟩)
          | (go_at_call 64; refine (run_any _ _ hs).mono ?_; rintro e w' ⟨t, rfl, ht, rfl⟩; have HT := Lib.hid ht; clear ht))
        go_ret
        exact ⟨ret_bool (name_all h0 h1 hin HT.out), rfl⟩
      | false =>
        have HN := Lib.hid (name_first h0 hin)
        go_enter Tryz.func65, Tryz.ntmps65
        go_wp2_with (first
          | (go_at_call 104; refine (isLetter_any _ _).mono ?_; rintro e w' ⟨rfl, rfl⟩))
        go_ret
        exact ⟨ret_bool HN.out.symm, rfl⟩
    · have HN := Lib.hid (name_long h1)
      go_enter Tryz.func65, Tryz.ntmps65
      go_wp2_with fail
      go_ret
      exact ⟨ret_bool HN.out.symm, rfl⟩
  · obtain ⟨f1, f2⟩ := empty_facts h0
    have HN := Lib.hid (name_none h0)
    go_enter Tryz.func65, Tryz.ntmps65
    go_wp2_with fail
    go_ret
    exact ⟨ret_bool HN.out.symm, rfl⟩
/-- number: the value, and whether it is one. -/
def NumOf (l : List UInt8) (w : World) (e : Ending) (w' : World) : Prop :=
  (match numL l with
   | some v => e = .returned (.tuple #[.int .i64 v, .bool true])
   | none => e = .returned (.tuple #[.int .i64 0, .bool false])) ∧ w = w'
theorem numOf_some {l : List UInt8} {v : Nat} (w : World) (h : numL l = some v) : NumOf l w (.returned (.tuple #[.int .i64 v, .bool true])) w := by unfold NumOf; rw [h]; exact ⟨rfl, rfl⟩
theorem numOf_none {l : List UInt8} (w : World) (h : numL l = none) : NumOf l w (.returned (.tuple #[.int .i64 0, .bool false])) w := by unfold NumOf; rw [h]; exact ⟨rfl, rfl⟩
theorem num_empty {s : ByteArray} (h : ¬ 0 < s.size) : numL s.data.toList = none := by
  rw [← Lib.toList_data, (empty_facts h).1]; rfl
theorem num_zero {s : ByteArray} (h0 : 0 < s.size) (h : s[0].toNat = 48) (h1 : 1 < s.size) : numL s.data.toList = none := by
  have hl := bytes_len s
  rw [bytes_cons h0] at hl ⊢
  have : s.data.toList.tail ≠ [] := by
    intro e; rw [e] at hl; simp at hl; omega
  rw [numL, if_pos ⟨h, this⟩]
theorem num_begin {s : ByteArray} (h0 : 0 < s.size) (h : ¬ (s[0].toNat = 48 ∧ 1 < s.size)) : numGo 0 (s.data.toList.drop 0) = numL s.data.toList := by
  have hl := bytes_len s
  rw [List.drop_zero]
  rw [bytes_cons h0] at hl ⊢
  rw [numL, if_neg]
  rintro ⟨h1, h2⟩
  apply h
  refine ⟨h1, ?_⟩
  cases ht : s.data.toList.tail with
  | nil => exact absurd ht h2
  | cons c r => rw [ht] at hl; simp at hl; omega
theorem num_cons {s : ByteArray} {k v : Nat} (hk : k < s.size) : numGo v (s.data.toList.drop k) = if digB s[k] then (if v * 10 + (s[k].toNat - 48) ≤ 1048576 then numGo (v * 10 + (s[k].toNat - 48)) (s.data.toList.drop (k + 1)) else none) else none := by
  rw [List.drop_eq_getElem_cons (by simpa using hk), numGo]; rfl
theorem num_end {s : ByteArray} {k v : Nat} (hk : ¬ k < s.size) : numGo v (s.data.toList.drop k) = some v := by
  rw [List.drop_eq_nil_of_le (by simp; omega), numGo]
theorem dig_facts {c : UInt8} (h : digB c = true) : 48 ≤ c.toNat ∧ c.toNat ≤ 57 := by simpa [digB] using h
set_option maxHeartbeats 1000000 in
theorem number_any (s : ByteArray) (w : World) (hs : s.size ≤ 140737488355328) : Calls Tryz.prog 66 #[.string s] w (NumOf s.data.toList w) := by
  by_cases h0 : 0 < s.size
  · obtain ⟨f1, f2⟩ := full_facts h0
    by_cases h1 : s[0].toNat = 48 ∧ 1 < s.size
    · have c1 : ((s[0].toNat : Int) == 48) = true := by simpa using (by omega : (s[0].toNat : Int) = 48)
      have HF := numOf_none w (num_zero h0 h1.1 h1.2)
      obtain ⟨_, h2⟩ := h1
      go_enter Tryz.func66, Tryz.ntmps66
      go_wp2_with fail
      go_ret2
      exact HF
    · have HB := Lib.hid (num_begin h0 h1)
      have h1' : (s[0].toNat = 48 ∧ s.size ≤ 1) ∨ ¬ s[0].toNat = 48 := by omega
      clear h1
      rcases h1' with ⟨h48, hone⟩ | h48
      all_goals
        go_enter Tryz.func66, Tryz.ntmps66
        go_wp2_with fail
        go_loop [4, 5, 20] (fun x _ i => ∃ k v : Nat, k ≤ s.size ∧ i = .int .i64 k ∧ x = .int .i64 v ∧ v ≤ 1048576 ∧ Hid (numGo v (s.data.toList.drop k) = numL s.data.toList)) (fun _ _ i => s.size - (intOf i).toNat)
        case atStart => exact ⟨0, 0, Nat.zero_le _, rfl, rfl, by omega, HB⟩
        case round =>
          obtain ⟨k, v, hk, rfl, rfl, hv, HR⟩ := hrel
          by_cases hlt : k < s.size
          · cases hd : digB s[k] with
            | true =>
              obtain ⟨d1, d2⟩ := dig_facts hd
              by_cases hm : v * 10 + (s[k].toNat - 48) ≤ 1048576
              · have HR' : Hid (numGo (v * 10 + (s[k].toNat - 48)) (s.data.toList.drop (k + 1)) = numL s.data.toList) := by
                  have h := HR.out; rw [num_cons hlt, hd, if_pos rfl, if_pos hm] at h; exact h
                clear HR
                go_wp2_with (first
                  | (go_at_call 105; refine (isDigit_any _ _).mono ?_; rintro e w' ⟨rfl, rfl⟩))
                go_round
                case rel => exact ⟨k + 1, v * 10 + (s[k].toNat - 48), hlt, by go_num, by go_num, hm, HR'⟩
                case measure => simp [intOf]; omega
              · have HF := numOf_none w (by have h := HR.out; rw [num_cons hlt, hd, if_pos rfl, if_neg hm] at h; exact h.symm)
                clear HR
                go_wp2_with (first
                  | (go_at_call 105; refine (isDigit_any _ _).mono ?_; rintro e w' ⟨rfl, rfl⟩))
                go_ret2
                exact HF
            | false =>
              have HF := numOf_none w (by have h := HR.out; rw [num_cons hlt, hd] at h; exact h.symm)
              clear HR
              go_wp2_with (first
                | (go_at_call 105; refine (isDigit_any _ _).mono ?_; rintro e w' ⟨rfl, rfl⟩))
              go_ret2
              exact HF
          · have HF := numOf_some w (by have h := HR.out; rw [num_end hlt] at h; exact h.symm)
            clear HR
            go_wp2_with fail
            go_ret2
            exact HF
  · obtain ⟨f1, f2⟩ := empty_facts h0
    have HF := numOf_none w (num_empty h0)
    go_enter Tryz.func66, Tryz.ntmps66
    go_wp2_with fail
    go_ret2
    exact HF
end Go.Proofs.YtigbceankmfaeaaGreatDoor.Lx
