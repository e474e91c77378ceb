/-
  Contracts of lex.isLetter, isDigit, isInner, run, Name, over any byte and any string. A map from keys to places, as the walks use it; which place a key has first.
-/
import Derived.Test.YtigbceankmfaeaaGreatDoorTbaa
import Derived.Test.YtigbceankmfaeaaGreatDoorProg
import Derived.WalkKit
import Derived.WalkSpells
import Derived.WalkLawsBesides
import Derived.Lib.Hide
import Derived.Lib.Strings
import Derived.Maps.OwnIn
import Derived.Maps.OwnSet
import Derived.Maps.Views
import Derived.DeepKeys4
import Derived.MapViews
namespace Go.Proofs.YtigbceankmfaeaaGreatDoor
open Go.RowKit
theorem ret_bool {a b : Bool} (h : a = b) : Ending.returned (.bool a) = .returned (.bool b) := by rw [h]
set_option maxHeartbeats 400000 in
theorem isLetter_any (c : UInt8) (w : World) : Calls Tryz.prog 104 #[.int .u8 c.toNat] w fun e w' => e = .returned (.bool (letB c)) ∧ w = w' := by
  go_enter Tryz.func104, Tryz.ntmps104
  go_wp2
  all_goals go_ret
  all_goals exact ⟨ret_bool (by rw [Bool.eq_iff_iff]; simp [letB]; omega), rfl⟩
set_option maxHeartbeats 400000 in
theorem isDigit_any (c : UInt8) (w : World) : Calls Tryz.prog 105 #[.int .u8 c.toNat] w fun e w' => e = .returned (.bool (digB c)) ∧ w = w' := by
  go_enter Tryz.func105, Tryz.ntmps105
  go_wp2
  all_goals go_ret
  all_goals exact ⟨ret_bool (by rw [Bool.eq_iff_iff]; simp [digB]; omega), rfl⟩
set_option maxHeartbeats 400000 in
theorem isInner_any (c : UInt8) (w : World) : Calls Tryz.prog 103 #[.int .u8 c.toNat] w fun e w' => e = .returned (.bool (innB c)) ∧ w = w' := by
  go_enter Tryz.func103, Tryz.ntmps103
  go_wp2_with (first
    | (go_at_call 104; refine (isLetter_any _ _).mono ?_; rintro e w' ⟨rfl, rfl⟩)
    | (go_at_call 105; refine (isDigit_any _ _).mono ?_; rintro e w' ⟨rfl, rfl⟩))
  all_goals go_ret
  all_goals exact ⟨ret_bool (by rw [Bool.eq_iff_iff]; simp [innB, *]; try omega), rfl⟩
/-- run: all that a word could take. -/
def RunOf (s : ByteArray) (w : World) (e : Ending) (w' : World) : Prop := ∃ t : ByteArray, e = .returned (.string t) ∧ t.data.toList = runL s.data.toList ∧ w = w'
theorem bytes_len (s : ByteArray) : s.data.toList.length = s.size := by simp
theorem bytes_pre (s : ByteArray) (k : Nat) : (s.extract 0 k).data.toList = s.data.toList.take k := by simp
theorem run_ends {s : ByteArray} {k : Nat} {w : World} (hr : k ≤ (runL s.data.toList).length) (hs : ∀ hk : k < s.size, innB s[k] = false) : RunOf s w (.returned (.string (s.extract 0 k))) w :=
  ⟨_, rfl, by rw [bytes_pre]; exact (run_stop _ _ hr fun hk => hs (by simpa using hk)).symm, rfl⟩
set_option maxHeartbeats 400000 in
theorem run_any (s : ByteArray) (w : World) (hs : s.size ≤ 140737488355328) : Calls Tryz.prog 64 #[.string s] w (RunOf s w) := by
  go_enter Tryz.func64, Tryz.ntmps64
  go_wp2
  go_loop [3] (fun i => ∃ k : Nat, k ≤ s.size ∧ i = .int .i64 k ∧ k ≤ (runL s.data.toList).length) (fun i => s.size - (intOf i).toNat)
  case atStart => exact ⟨0, Nat.zero_le _, rfl, Nat.zero_le _⟩
  case round =>
    obtain ⟨k, hk, rfl, hr⟩ := hrel
    by_cases hlt : k < s.size
    · cases hin : innB s[k] with
      | true =>
        have hr' : k + 1 ≤ (runL s.data.toList).length := run_step _ k (by simpa using hlt) hin hr
        go_wp2_with (first
          | (go_at_call 103; refine (isInner_any _ _).mono ?_; rintro e w' ⟨rfl, rfl⟩))
        go_round
        case rel => exact ⟨k + 1, hlt, by go_num, hr'⟩
        case measure => simp [intOf]; omega
      | false =>
        have HF : RunOf s w (.returned (.string (s.extract 0 k))) w := run_ends hr fun _ => hin
        go_wp2_with (first
          | (go_at_call 103; refine (isInner_any _ _).mono ?_; rintro e w' ⟨rfl, rfl⟩))
        go_ret
        exact HF
    · have HF : RunOf s w (.returned (.string (s.extract 0 k))) w := run_ends hr fun h => absurd h hlt
      go_wp2_with fail
      go_ret
      exact HF
theorem full_facts {s : ByteArray} (h : 0 < s.size) : ¬ s.toList = [] ∧ s.toList.isEmpty = false := by
  rw [Lib.size_eq, ← Lib.toList_data] at h
  cases hl : s.toList with
  | nil => rw [hl] at h; simp at h
  | cons c r => simp
theorem empty_facts {s : ByteArray} (h : ¬ 0 < s.size) : s.toList = [] ∧ s.toList.isEmpty = true := by
  rw [Lib.size_eq, ← Lib.toList_data] at h
  cases hl : s.toList with
  | nil => simp
  | cons c r => rw [hl] at h; simp at h
theorem bytes_cons {s : ByteArray} (h : 0 < s.size) : s.data.toList = s[0] :: s.data.toList.tail := by
  have h' : 0 < s.data.toList.length := by simpa using h
  have := List.drop_eq_getElem_cons h'
  rw [List.drop_zero] at this
  rw [this]; rfl
theorem name_none {s : ByteArray} (h : ¬ 0 < s.size) : nameL s.data.toList = false := by
  rw [← Lib.toList_data, (empty_facts h).1]; rfl
theorem name_long {s : ByteArray} (h : ¬ s.size ≤ 20) : nameL s.data.toList = false := by
  have h0 : 0 < s.size := by omega
  have hl := bytes_len s
  rw [bytes_cons h0] at hl ⊢
  simp only [List.length_cons] at hl
  have : ¬ s.data.toList.tail.length < 20 := by omega
  rw [nameL, decide_eq_false this, Bool.false_and, Bool.false_and]
theorem name_first {s : ByteArray} (h0 : 0 < s.size) (h : letB s[0] = false) : nameL s.data.toList = false := by
  rw [bytes_cons h0]; simp [nameL, h]
theorem runL_full (l : List UInt8) : (runL l).length = l.length ↔ l.all innB = true := by
  induction l with
  | nil => simp [runL]
  | cons c r ih =>
    by_cases hc : innB c = true
    · rw [runL_cons c r hc]; simp [hc, ih]
    · rw [runL_none c r (by simpa using hc)]; simp [hc]
theorem name_all {s t : ByteArray} (h0 : 0 < s.size) (h1 : s.size ≤ 20) (h : letB s[0] = true) (ht : t.data.toList = runL s.data.toList) : ((t.size : Int) == (s.size : Int)) = nameL s.data.toList := by
  have hl := bytes_len s
  have hf := runL_full s.data.toList
  have hi : innB s[0] = true := by simp [innB, h]
  rw [Lib.size_eq t, ht, ← hl]
  rw [bytes_cons h0] at hf hl ⊢
  simp only [List.length_cons] at hl
  have : s.data.toList.tail.length < 20 := by omega
  simp only [List.all_cons, hi, Bool.true_and] at hf
  simp only [nameL, h, Bool.and_true]
  rw [decide_eq_true this, Bool.true_and]
  rw [Bool.eq_iff_iff, beq_iff_eq, ← hf]
  omega
set_option maxHeartbeats 400000 in
theorem name_any (s : ByteArray) (w : World) (hs : s.size ≤ 140737488355328) : Calls Tryz.prog 65 #[.string s] w fun e w' => e = .returned (.bool (nameL s.data.toList)) ∧ w = w' := by
  by_cases h0 : 0 < s.size
  · obtain ⟨f1, f2⟩ := full_facts h0
    by_cases h1 : s.size ≤ 20
    · cases hin : letB s[0] with
      | true =>
        go_enter Tryz.func65, Tryz.ntmps65
        go_wp2_with (first
          | (go_at_call 104; refine (isLetter_any _ _).mono ?_; rintro e w' ⟨rfl, rfl⟩)
          | (go_at_call 64; refine (run_any _ _ hs).mono ?_; rintro e w' ⟨t, rfl, ht, rfl⟩; have HT := Lib.hid ht; clear ht))
        go_ret
        exact ⟨ret_bool (name_all h0 h1 hin HT.out), rfl⟩
      | false =>
        have HN := Lib.hid (name_first h0 hin)
        go_enter Tryz.func65, Tryz.ntmps65
        go_wp2_with (first
          | (go_at_call 104; refine (isLetter_any _ _).mono ?_; rintro e w' ⟨rfl, rfl⟩))
        go_ret
        exact ⟨ret_bool HN.out.symm, rfl⟩
    · have HN := Lib.hid (name_long h1)
      go_enter Tryz.func65, Tryz.ntmps65
      go_wp2_with fail
      go_ret
      exact ⟨ret_bool HN.out.symm, rfl⟩
  · obtain ⟨f1, f2⟩ := empty_facts h0
    have HN := Lib.hid (name_none h0)
    go_enter Tryz.func65, Tryz.ntmps65
    go_wp2_with fail
    go_ret
    exact ⟨ret_bool HN.out.symm, rfl⟩
end Go.Proofs.YtigbceankmfaeaaGreatDoor

namespace Go.Proofs.YtigbceankmfaeaaGreatDoor
open Go.RowKit
noncomputable instance litDec : DecidableEq Lit := fun _ _ => Classical.propDecidable _
/-- Block b is a map of ints that holds, at each key, what f says. -/
def MapFn (w : World) (P : Program) (k e : TypeId) (b n : Nat) (f : Lit → Option Nat) : Prop :=
  ∃ D : DataW Unit, w.ownsMap P k (plainElem P e) b n D ∧ ∀ l, WideAt.IsKeyLit l → Maps.has D l = (f l).isSome ∧ D.atKey l (.lit (.int .i64 0)) = .lit (.int .i64 (((f l).getD 0 : Nat) : Int))
theorem MapFn.lt {w : World} {P : Program} {k e : TypeId} {b n : Nat} {f : Lit → Option Nat} (h : MapFn w P k e b n f) : b < w.heap.size := by obtain ⟨D, h, _⟩ := h; exact h.lt
theorem MapFn.made (w : World) (P : Program) (k e : TypeId) : MapFn (w.alloc (.map #[] 0)) P k e w.heap.size 0 (fun _ => none) :=
  ⟨.map [], World.ownsMap_made w P k _, fun _ _ => ⟨rfl, rfl⟩⟩
theorem MapFn.of_own {w : World} {P : Program} {k e : TypeId} {b n : Nat} {f : Lit → Option Nat} {D : DataW Unit} {kl : Lit} {i : Nat} (hf : ∀ l, WideAt.IsKeyLit l → Maps.has D l = (f l).isSome ∧ D.atKey l (.lit (.int .i64 0)) = .lit (.int .i64 (((f l).getD 0 : Nat) : Int)))
    (hD : Maps.IsMap D) (hk : WideAt.IsKeyLit kl) (h : w.ownsMap P k (plainElem P e) b n (D.put kl (.lit (.int .i64 (i : Int))))) : MapFn w P k e b n (fun l => if l = kl then some i else f l) := by
  refine ⟨_, h, fun l hl => ?_⟩
  by_cases e : l = kl
  · subst e
    simp only [if_true]
    exact ⟨by rw [Maps.has_put_same hD hk]; rfl, by rw [Maps.atKey_put_same hD hk]; rfl⟩
  · simp only [if_neg e]
    exact ⟨by rw [Maps.has_put_other e]; exact (hf l hl).1, by rw [Maps.atKey_put_other e]; exact (hf l hl).2⟩
theorem MapFn.block {w w' : World} {P : Program} {k e : TypeId} {b n : Nat} {f : Lit → Option Nat} (h : MapFn w P k e b n f) (hb : w'.heap[b]? = w.heap[b]?) : MapFn w' P k e b n f := by
  obtain ⟨D, ⟨es, clock, h1, h2⟩, h3⟩ := h
  exact ⟨D, ⟨es, clock, hb.trans h1, h2⟩, h3⟩
theorem MapFn.below {w w' : World} {P : Program} {k e : TypeId} {b n : Nat} {f : Lit → Option Nat} (h : MapFn w P k e b n f) {B : Nat} (hB : w.heap.size ≤ B) (hb : Below B w w') : MapFn w' P k e b n f :=
  h.block (hb.block b (by have := h.lt; omega))
theorem MapFn.look {w : World} {P : Program} {k e t : TypeId} {b n : Nat} {f : Lit → Option Nat} (h : MapFn w P k e b n f) (K : Maps.Keyed P k) (ht : P.underlying t = some (.map k e)) (he : P.underlying e = some (.int .i64)) (hz : (zeroValue e).run P w = .ok (.int .i64 0) w)
    {key : Value} {kl : Lit} (hkey : keyOf P k key = some kl) : (Instr.lookup t (.map (some b)) key false).run P w = .ok (.int .i64 (((f kl).getD 0 : Nat) : Int)) w := by
  obtain ⟨D, h, hf⟩ := h
  obtain ⟨c, h1, h2, _⟩ := h.lookup_int K ht he hz hkey
  rw [(hf kl (K.key hkey)).2] at h2
  cases h2
  exact h1
theorem MapFn.look_ok {w : World} {P : Program} {k e t : TypeId} {b n : Nat} {f : Lit → Option Nat} (h : MapFn w P k e b n f) (K : Maps.Keyed P k) (ht : P.underlying t = some (.map k e)) (he : P.underlying e = some (.int .i64)) (hz : (zeroValue e).run P w = .ok (.int .i64 0) w)
    {key : Value} {kl : Lit} (hkey : keyOf P k key = some kl) : (Instr.lookup t (.map (some b)) key true).run P w = .ok (.tuple #[.int .i64 (((f kl).getD 0 : Nat) : Int), .bool (f kl).isSome]) w := by
  obtain ⟨D, h, hf⟩ := h
  obtain ⟨v, ps, h1, h2⟩ := h.look_ok K ht hz (plainElem_int he (by decide)) hkey
  obtain ⟨c, rfl, h3, _⟩ := plainElem_int_inv he h2
  rw [(hf kl (K.key hkey)).1] at h1
  have h4 := congrArg Prod.fst h3
  simp only at h4
  rw [(hf kl (K.key hkey)).2] at h4
  cases h4
  exact h1
noncomputable def firstOf (ls : List Lit) (l : Lit) : Option Nat := ls.findIdx? (fun x => decide (x = l))
theorem firstOf_map {α : Type} [BEq α] [LawfulBEq α] (h : α → Lit) (k : α) : ∀ (ks : List α) (_ : ∀ x ∈ ks, h x = h k → x = k), firstOf (ks.map h) (h k) = if ks.contains k then some (ks.idxOf k) else none
  | [], _ => rfl
  | x :: r, hk => by
    have ih := firstOf_map h k r (fun y hy => hk y (by simp [hy]))
    unfold firstOf at ih ⊢
    rw [List.map_cons, List.findIdx?_cons, ih]
    by_cases e : x = k
    · subst e; simp
    · have e' : h x ≠ h k := fun e' => e (hk x (by simp) e')
      have e2 : (x == k) = false := by simpa using e
      have e3 : (k == x) = false := by simpa using (fun e' => e e'.symm : ¬ k = x)
      simp only [e', decide_false, Bool.false_eq_true, if_false, List.contains_cons, e3, Bool.false_or, List.idxOf_cons, e2, cond_false]
      cases r.contains k <;> simp
/-- The last of some places, as they came, that has a key. -/
noncomputable def lastF {n : Nat} (f : Fin n → Lit) (pre : List (Fin n)) (l : Lit) : Option Nat := pre.foldl (fun o i => if f i = l then some i.val else o) none
theorem lastF_snoc {n : Nat} (f : Fin n → Lit) (pre : List (Fin n)) (i : Fin n) : lastF f (pre ++ [i]) = fun l => if l = f i then some i.val else lastF f pre l := by
  funext l
  unfold lastF
  rw [List.foldl_append]
  by_cases e : f i = l
  · subst e; simp
  · have e' : ¬ l = f i := fun h => e h.symm
    simp only [List.foldl_cons, List.foldl_nil, if_neg e]
    rw [if_neg e']
theorem foldr_succ {α : Type} (p : α → Prop) [DecidablePred p] (h : α → Nat) : ∀ L : List α, L.foldr (fun i o => if p i then some (h i + 1) else o) none = (L.foldr (fun i o => if p i then some (h i) else o) none).map (· + 1)
  | [] => rfl
  | x :: r => by
    rw [List.foldr_cons, List.foldr_cons, foldr_succ p h r]
    by_cases e : p x
    · simp [e]
    · simp [e]
theorem foldr_first (l : Lit) : ∀ (n : Nat) (f : Fin n → Lit), (List.finRange n).foldr (fun i o => if f i = l then some i.val else o) none = firstOf (List.ofFn f) l
  | 0, _ => rfl
  | n + 1, f => by
    have ih := foldr_first l n (fun i => f i.succ)
    rw [List.finRange_succ, List.foldr_cons, List.foldr_map, List.ofFn_succ]
    have e1 : (List.foldr (fun (i : Fin n) (o : Option Nat) => if f i.succ = l then some i.succ.val else o) none (List.finRange n)) = (firstOf (List.ofFn fun i => f i.succ) l).map (· + 1) := by
      rw [← ih, ← foldr_succ (fun i : Fin n => f i.succ = l) (fun i => i.val)]
      rfl
    rw [e1]
    unfold firstOf
    rw [List.findIdx?_cons]
    by_cases e : f 0 = l
    · simp [e]
    · simp [e]
theorem lastF_all {α : Type} (key : α → Lit) (l : List α) : lastF (fun i : Fin l.length => key l[i]) (List.finRange l.length).reverse = firstOf (l.map key) := by
  funext k
  unfold lastF
  rw [List.foldl_reverse, foldr_first k l.length (fun i => key l[i])]
  have e : List.ofFn (fun i : Fin l.length => l[i]) = l := List.ofFn_getElem
  have e2 : List.ofFn (fun i : Fin l.length => key l[i]) = l.map key := by
    conv => rhs; rw [← e, List.map_ofFn]
    rfl
  rw [e2]
theorem down_step {n m : Nat} (h : m < n) : ((List.finRange n).drop m).reverse = ((List.finRange n).drop (m + 1)).reverse ++ [⟨m, h⟩] := by
  rw [List.drop_eq_getElem_cons (by simpa using h), List.reverse_cons]
  simp
end Go.Proofs.YtigbceankmfaeaaGreatDoor
