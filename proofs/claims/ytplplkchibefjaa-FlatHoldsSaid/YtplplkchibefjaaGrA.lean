/-
  A map from keys to places, as the walks use it; which place a key has first.
-/
import Derived.Test.YtplplkchibefjaaProg
import Derived.Test.YtplplkchibefjaaGrM
import Derived.Test.YtplplkchibefjaaNam
import Derived.Maps.OwnIn
import Derived.Maps.OwnSet
import Derived.Maps.Views
import Derived.DeepKeys4
import Derived.MapViews
namespace Go.Proofs.Ytplplkchibefjaa
open Go.RowKit

noncomputable instance litDec : DecidableEq Lit := fun _ _ => Classical.propDecidable _

/-- Block b is a map of ints that holds, at each key, what f says. -/
def MapFn (w : World) (P : Program) (k e : TypeId) (b n : Nat) (f : Lit → Option Nat) : Prop :=
  ∃ D : DataW Unit, w.ownsMap P k (plainElem P e) b n D ∧ ∀ l, WideAt.IsKeyLit l → Maps.has D l = (f l).isSome ∧ D.atKey l (.lit (.int .i64 0)) = .lit (.int .i64 (((f l).getD 0 : Nat) : Int))
theorem MapFn.lt {w : World} {P : Program} {k e : TypeId} {b n : Nat} {f : Lit → Option Nat} (h : MapFn w P k e b n f) : b < w.heap.size := by obtain ⟨D, h, _⟩ := h; exact h.lt
theorem MapFn.made (w : World) (P : Program) (k e : TypeId) : MapFn (w.alloc (.map #[] 0)) P k e w.heap.size 0 (fun _ => none) :=
  ⟨.map [], World.ownsMap_made w P k _, fun _ _ => ⟨rfl, rfl⟩⟩
theorem MapFn.of_own {w : World} {P : Program} {k e : TypeId} {b n : Nat} {f : Lit → Option Nat} {D : DataW Unit} {kl : Lit} {i : Nat} (hf : ∀ l, WideAt.IsKeyLit l → Maps.has D l = (f l).isSome ∧ D.atKey l (.lit (.int .i64 0)) = .lit (.int .i64 (((f l).getD 0 : Nat) : Int)))
    (hD : Maps.IsMap D) (hk : WideAt.IsKeyLit kl) (h : w.ownsMap P k (plainElem P e) b n (D.put kl (.lit (.int .i64 (i : Int))))) : MapFn w P k e b n (fun l => if l = kl then some i else f l) := by
  refine ⟨_, h, fun l hl => ?_⟩
  by_cases e : l = kl
  · subst e
    simp only [if_true]
    exact ⟨by rw [Maps.has_put_same hD hk]; rfl, by rw [Maps.atKey_put_same hD hk]; rfl⟩
  · simp only [if_neg e]
    exact ⟨by rw [Maps.has_put_other e]; exact (hf l hl).1, by rw [Maps.atKey_put_other e]; exact (hf l hl).2⟩
theorem MapFn.block {w w' : World} {P : Program} {k e : TypeId} {b n : Nat} {f : Lit → Option Nat} (h : MapFn w P k e b n f) (hb : w'.heap[b]? = w.heap[b]?) : MapFn w' P k e b n f := by
  obtain ⟨D, ⟨es, clock, h1, h2⟩, h3⟩ := h
  exact ⟨D, ⟨es, clock, hb.trans h1, h2⟩, h3⟩
theorem MapFn.below {w w' : World} {P : Program} {k e : TypeId} {b n : Nat} {f : Lit → Option Nat} (h : MapFn w P k e b n f) {B : Nat} (hB : w.heap.size ≤ B) (hb : Below B w w') : MapFn w' P k e b n f :=
  h.block (hb.block b (by have := h.lt; omega))
theorem MapFn.look {w : World} {P : Program} {k e t : TypeId} {b n : Nat} {f : Lit → Option Nat} (h : MapFn w P k e b n f) (K : Maps.Keyed P k) (ht : P.underlying t = some (.map k e)) (he : P.underlying e = some (.int .i64)) (hz : (zeroValue e).run P w = .ok (.int .i64 0) w)
    {key : Value} {kl : Lit} (hkey : keyOf P k key = some kl) : (Instr.lookup t (.map (some b)) key false).run P w = .ok (.int .i64 (((f kl).getD 0 : Nat) : Int)) w := by
  obtain ⟨D, h, hf⟩ := h
  obtain ⟨c, h1, h2, _⟩ := h.lookup_int K ht he hz hkey
  rw [(hf kl (K.key hkey)).2] at h2
  cases h2
  exact h1
theorem MapFn.look_ok {w : World} {P : Program} {k e t : TypeId} {b n : Nat} {f : Lit → Option Nat} (h : MapFn w P k e b n f) (K : Maps.Keyed P k) (ht : P.underlying t = some (.map k e)) (he : P.underlying e = some (.int .i64)) (hz : (zeroValue e).run P w = .ok (.int .i64 0) w)
    {key : Value} {kl : Lit} (hkey : keyOf P k key = some kl) : (Instr.lookup t (.map (some b)) key true).run P w = .ok (.tuple #[.int .i64 (((f kl).getD 0 : Nat) : Int), .bool (f kl).isSome]) w := by
  obtain ⟨D, h, hf⟩ := h
  obtain ⟨v, ps, h1, h2⟩ := h.look_ok K ht hz (plainElem_int he (by decide)) hkey
  obtain ⟨c, rfl, h3, _⟩ := plainElem_int_inv he h2
  rw [(hf kl (K.key hkey)).1] at h1
  have h4 := congrArg Prod.fst h3
  simp only at h4
  rw [(hf kl (K.key hkey)).2] at h4
  cases h4
  exact h1

/-! ### where a key stands first -/
noncomputable def firstOf (ls : List Lit) (l : Lit) : Option Nat := ls.findIdx? (fun x => decide (x = l))
theorem firstOf_map {α : Type} [BEq α] [LawfulBEq α] (h : α → Lit) (k : α) : ∀ (ks : List α) (_ : ∀ x ∈ ks, h x = h k → x = k), firstOf (ks.map h) (h k) = if ks.contains k then some (ks.idxOf k) else none
  | [], _ => rfl
  | x :: r, hk => by
    have ih := firstOf_map h k r (fun y hy => hk y (by simp [hy]))
    unfold firstOf at ih ⊢
    rw [List.map_cons, List.findIdx?_cons, ih]
    by_cases e : x = k
    · subst e; simp
    · have e' : h x ≠ h k := fun e' => e (hk x (by simp) e')
      have e2 : (x == k) = false := by simpa using e
      have e3 : (k == x) = false := by simpa using (fun e' => e e'.symm : ¬ k = x)
      simp only [e', decide_false, Bool.false_eq_true, if_false, List.contains_cons, e3, Bool.false_or, List.idxOf_cons, e2, cond_false]
      cases r.contains k <;> simp
/-- The last of some places, as they came, that has a key. -/
noncomputable def lastF {n : Nat} (f : Fin n → Lit) (pre : List (Fin n)) (l : Lit) : Option Nat := pre.foldl (fun o i => if f i = l then some i.val else o) none
theorem lastF_snoc {n : Nat} (f : Fin n → Lit) (pre : List (Fin n)) (i : Fin n) : lastF f (pre ++ [i]) = fun l => if l = f i then some i.val else lastF f pre l := by
  funext l
  unfold lastF
  rw [List.foldl_append]
  by_cases e : f i = l
  · subst e; simp
  · have e' : ¬ l = f i := fun h => e h.symm
    simp only [List.foldl_cons, List.foldl_nil, if_neg e]
    rw [if_neg e']
theorem foldr_succ {α : Type} (p : α → Prop) [DecidablePred p] (h : α → Nat) : ∀ L : List α, L.foldr (fun i o => if p i then some (h i + 1) else o) none = (L.foldr (fun i o => if p i then some (h i) else o) none).map (· + 1)
  | [] => rfl
  | x :: r => by
    rw [List.foldr_cons, List.foldr_cons, foldr_succ p h r]
    by_cases e : p x
    · simp [e]
    · simp [e]
theorem foldr_first (l : Lit) : ∀ (n : Nat) (f : Fin n → Lit), (List.finRange n).foldr (fun i o => if f i = l then some i.val else o) none = firstOf (List.ofFn f) l
  | 0, _ => rfl
  | n + 1, f => by
    have ih := foldr_first l n (fun i => f i.succ)
    rw [List.finRange_succ, List.foldr_cons, List.foldr_map, List.ofFn_succ]
    have e1 : (List.foldr (fun (i : Fin n) (o : Option Nat) => if f i.succ = l then some i.succ.val else o) none (List.finRange n)) = (firstOf (List.ofFn fun i => f i.succ) l).map (· + 1) := by
      rw [← ih, ← foldr_succ (fun i : Fin n => f i.succ = l) (fun i => i.val)]
      rfl
    rw [e1]
    unfold firstOf
    rw [List.findIdx?_cons]
    by_cases e : f 0 = l
    · simp [e]
    · simp [e]
theorem lastF_all {α : Type} (key : α → Lit) (l : List α) : lastF (fun i : Fin l.length => key l[i]) (List.finRange l.length).reverse = firstOf (l.map key) := by
  funext k
  unfold lastF
  rw [List.foldl_reverse, foldr_first k l.length (fun i => key l[i])]
  have e : List.ofFn (fun i : Fin l.length => l[i]) = l := List.ofFn_getElem
  have e2 : List.ofFn (fun i : Fin l.length => key l[i]) = l.map key := by
    conv => rhs; rw [← e, List.map_ofFn]
    rfl
  rw [e2]
theorem down_step {n m : Nat} (h : m < n) : ((List.finRange n).drop m).reverse = ((List.finRange n).drop (m + 1)).reverse ++ [⟨m, h⟩] := by
  rw [List.drop_eq_getElem_cons (by simpa using h), List.reverse_cons]
  simp
end Go.Proofs.Ytplplkchibefjaa
