/-
  Arguments that came in: nets. What ring's functions answer, said of nets that lie in memory. A map of points to truth, counted; where a point leads, step by step. Maps that are sets: a key stands, or it doesn't. Contracts of maps.Copy at sets of ints, and of needs.joined at them. The library's contracts of maps.Keys, slices.Sorted and slices.Sort at ints, laid at this program's numbers.
-/
import Derived.Test.YtigicbnkfmbolaaCag
import Derived.Test.YtigicbnkfmbolaaRows
import Derived.SizedLaws
import Derived.Deep.Slices
import Derived.Deep.Fields
import Derived.Lib.SmallJoins
import Derived.ProofKit
import Derived.OpenShut
import Derived.Carry
import Derived.BigRegion
import Derived.Maps.OwnIn
import Derived.Maps.OwnSet
import Derived.Maps.Views
import Derived.DeepKeys4
import Derived.MapViews
import Derived.Maps.RangeWalk
import Derived.Lib.SlKeysI
import Derived.Shelf.Sort.Plain
import Derived.Shelf.Slices.In.SortNone
import Derived.Shelf.SlIterI.Nil
import Derived.Test.YtigicbnkfmbolaaProg
namespace Go.Proofs.Ytigicbnkfmbolaa.R6
open Go.RowKit Go.Shelf Go.Deep Go.Joins Go.ChangeShapes Go.WideShapes Go.Proofs.Ytigicbnkfmbolaa.B
section
variable {H : Type} {enc : TypeId × Value → H} {P : Program} {w : World} {base : Nat} {spare : Nat → Bool} {held : Bool}
/-- What is read weighs no more than the reach. -/
def Wt (P : Program) (t : TypeId) (d : DataW H) : Prop := ∀ n ∈ d.weights P t, n ≤ 140737488351232
theorem Wt.of {ts : List TypeId} {ds : List (DataW H)} (h : (DataW.weightsEach P ts ds).all (· ≤ reachBytes) = true) {j : Nat} {t : TypeId} {d : DataW H} (ht : ts[j]? = some t) (hd : ds[j]? = some d) : Wt P t d :=
  fun n hn => of_decide_eq_true (List.all_eq_true.1 h n (DataW.weights_mem_each ht hd n hn))
theorem Wt.field {t : TypeId} {fs : Array Field} {parts : List (DataW H)} (h : Wt P t (.agg parts)) (ht : P.underlying t = some (.struct fs)) {j : Nat} {f : Field} {d : DataW H} (hf : fs[j]? = some f) (hd : parts[j]? = some d) : Wt P f.type d :=
  fun n hn => h n (by
    simp only [DataW.weights, ht]
    exact DataW.weights_mem_each (by rw [List.getElem?_map, Array.getElem?_toList, hf]; rfl) hd n hn)
theorem wt_all {e : TypeId} {n : Nat} : ∀ {l : List (DataW H)} {d : DataW H}, d ∈ l → n ∈ d.weights P e → n ∈ DataW.weightsAll P e l
  | x :: r, d, hd, hn => by
    rw [DataW.weightsAll, List.mem_append]
    cases hd with
    | head => exact .inl hn
    | tail _ h => exact .inr (wt_all h hn)
theorem Wt.len {t e : TypeId} {es sp : List (DataW H)} (h : Wt P t (.slice es sp)) (ht : P.underlying t = some (.slice e)) : (es.length + sp.length) * P.bytesOf e ≤ 140737488351232 :=
  h _ (by simp only [DataW.weights, ht]; exact List.mem_cons_self ..)
theorem Wt.elem {t e : TypeId} {es sp : List (DataW H)} (h : Wt P t (.slice es sp)) (ht : P.underlying t = some (.slice e)) {d : DataW H} (hd : d ∈ es) : Wt P e d :=
  fun n hn => h n (by simp only [DataW.weights, ht, List.mem_cons, List.mem_append]; exact .inr (.inl (wt_all hd hn)))
theorem Wt.str {t : TypeId} {l : List UInt8} (h : Wt P t (.lit (.string l) : DataW H)) : l.length ≤ 140737488351232 := h _ (by simp [DataW.weights])
/-- A list that came in. -/
theorem open_list {α : Type} [Inhabited α] (en : α → List Value) (k : Nat) (good : α → Prop) {t e : TypeId} (ht : P.underlying t = some (.slice e)) (hC : P.cellsOf e = k) (hk : ∀ x, (en x).length = k) (k0 : 0 < k)
    (hel : ∀ (n : Nat) (cs : List Value) (y : DataW H × List MemPlace), DataW.trod enc P w base spare held n e cs = some y → Wt P e y.1 → ∃ x, cs = en x ∧ good x)
    {fuel : Nat} {v : Value} {x : DataW H × List MemPlace} (h : DataW.trod enc P w base spare held fuel t [v] = some x) (hw : Wt P t x.1) :
    ∃ (A : Option Addr) (l : List α) (c : Nat), v = .slice A l.length c ∧ Row w A (l.flatMap en) ∧ (∀ x ∈ l, good x) ∧ l.length ≤ c ∧ (A = none → c = 0) ∧ l.length * P.bytesOf e ≤ 140737488351232 := by
  rcases open_slice ht h with ⟨hv, hx⟩ | ⟨a, len, cap, m, n, D, Pl, hv, hb, hl, hm, hmm, rfl, hi⟩
  · injection hv with hv _
    exact ⟨none, [], 0, hv, fun h => absurd rfl h, by simp, Nat.le_refl _, fun _ => rfl, by simp⟩
  · injection hv with hv _
    subst hv
    have hlm : len ≤ m := by rw [hmm]; split <;> omega
    have hW := hw.len ht
    rw [List.length_map, List.length_range] at hW
    have el : ∀ i, i < len → ∃ x : α, (∀ j u, (en x)[j]? = some u → w.cell? (a.add (i * k + j)) = some u) ∧ good x := by
      intro i hil
      obtain ⟨cs, hc, htr⟩ := hi i (by omega)
      obtain ⟨x, hcs, hg⟩ := hel n cs _ htr (hw.elem ht (List.mem_map.2 ⟨i, List.mem_range.2 hil, rfl⟩))
      obtain ⟨_, hcl, hat⟩ := World.cells?_some hc
      refine ⟨x, fun j u hj => ?_, hg⟩
      rw [← hcs] at hj
      have hjk : j < k := by rw [← hC, ← hcl]; exact (List.getElem?_eq_some_iff.1 hj).1
      have h1 := hat j (by rw [hC]; exact hjk)
      rw [hC, Go.Deep.add_add] at h1
      exact h1.trans hj
    obtain ⟨f, hf⟩ : ∃ f : Nat → α, ∀ i, i < len → (∀ j u, (en (f i))[j]? = some u → w.cell? (a.add (i * k + j)) = some u) ∧ good (f i) := by
      classical
      refine ⟨fun i => if h : i < len then Classical.choose (el i h) else default, fun i hil => ?_⟩
      simp only [hil, dif_pos]
      exact Classical.choose_spec (el i hil)
    have hat : ∀ i, i < len → ((List.range len).map f)[i]! = f i := fun i hil => by
      rw [getElem!_pos _ i (by simpa using hil), List.getElem_map, List.getElem_range]
    refine ⟨some a, (List.range len).map f, cap, by simp, fun hne => ?_, fun y hy => ?_, by simpa using hl, (fun e => by cases e), ?_⟩
    · have hlen0 : 0 < len := by
        rcases Nat.eq_zero_or_pos len with h0 | h0
        · exfalso; apply hne; rw [h0]; rfl
        · exact h0
      have hcell : ∀ j u, (((List.range len).map f).flatMap en)[j]? = some u → w.cell? (a.add j) = some u := by
        intro j u hj
        have hjl := (List.getElem?_eq_some_iff.1 hj).1
        rw [flat_len en k hk, List.length_map, List.length_range] at hjl
        have hik : j / k < len := Nat.div_lt_of_lt_mul (by rw [Nat.mul_comm]; exact hjl)
        have hr : j % k < k := Nat.mod_lt _ k0
        have e1 : j / k * k + j % k = j := Nat.div_add_mod' j k
        have h2 := flat_at en k hk ((List.range len).map f) (j / k) (by simpa using hik) (j % k) hr
        rw [e1, hj, hat _ hik] at h2
        have h3 := (hf (j / k) hik).1 (j % k) u h2.symm
        rw [e1] at h3; exact h3
      obtain ⟨blk, off, spot⟩ := a
      have h0 : w.cell? ⟨blk, off, spot⟩ ≠ none := by
        have hl0 : 0 < (((List.range len).map f).flatMap en).length := by rw [flat_len en k hk, List.length_map, List.length_range]; exact Nat.mul_pos hlen0 k0
        have h1 := hcell 0 _ (List.getElem?_eq_getElem hl0)
        intro h2
        have e0 : (⟨blk, off, spot⟩ : Addr).add 0 = ⟨blk, off, spot⟩ := if_pos rfl
        rw [e0, h2] at h1; cases h1
      have hsp : spot = none := by
        cases spot with
        | none => rfl
        | some s => exfalso; apply h0; unfold World.cell?; split <;> simp
      subst hsp
      refine ⟨blk, off, rfl, ?_, fun j u hj => ?_⟩
      · rcases Nat.lt_or_ge blk w.heap.size with h1 | h1
        · exact h1
        · exfalso; apply h0; unfold World.cell?; simp [Array.getElem?_eq_none h1]
      · have := hcell j u hj
        rw [Addr.add_lit] at this; exact this
    · obtain ⟨i, hil, rfl⟩ := List.mem_map.1 hy
      exact (hf i (List.mem_range.1 hil)).2
    · rw [List.length_map, List.length_range]
      exact Nat.le_trans (Nat.mul_le_mul_right _ (Nat.le_add_right _ _)) hW
end
section
variable {H : Type} {enc : TypeId × Value → H} {w : World} {base : Nat} {spare : Nat → Bool} {held : Bool}
set_option maxRecDepth 100000 in
theorem open_int {r : Reach} {b0 : Nat} {v : Value} {d : DataW H} {p : List MemPlace} (hv : Value.okWide Try.prog w r b0 3 v) (h : DataW.Trod enc Try.prog w base spare held 3 v d p) : ∃ i : Int, v = .int .i64 i ∧ (Lit.int .i64 i).wf = true := by
  obtain ⟨i, rfl⟩ := okWide_int Try.underlying3 hv
  obtain ⟨f, hf⟩ := h
  obtain ⟨j, hs, _, hwf⟩ := DataW.trod_int Try.underlying3 hf
  injection hs with hs _
  exact ⟨j, hs, hwf⟩
end
theorem progLaid : laidOutB Try.prog = true := by kernel_rfl
end Go.Proofs.Ytigicbnkfmbolaa.R6

namespace Go.Proofs.Ytigicbnkfmbolaa.R6
open Go.RowKit Go.Shelf Go.Proofs.Ytigicbnkfmbolaa.B
structure Small (n : NetL) : Prop where
  l : n.length ≤ 24
  r : ∀ l ∈ n, l.length ≤ 60
theorem Small.turn {n : NetL} (h : Small n) : Small (turnL n) := ⟨by rw [turn_len]; exact h.l, fun l hl => by
  obtain ⟨i, _, rfl⟩ := List.mem_map.1 hl
  have := toL_len n n.length i
  have := h.l
  omega⟩
theorem Small.r2 {n : NetL} (h : Small n) {m : Nat} (hm : 60 ≤ m) : ∀ l ∈ n, l.length ≤ m := fun l hl => Nat.le_trans (h.r l hl) hm
def reachN (n : NetL) (i : Int) : List Int := (reachI n i).map fun j : Nat => (j : Int)
section
variable {W : World} {A B : Option Addr} {c d : Nat} {n : NetL}
end
section
open Go.Deep Go.Joins Go.ChangeShapes Go.WideShapes
variable {H : Type} {enc : TypeId × Value → H} {w : World} {base : Nat} {spare : Nat → Bool} {held : Bool}
end
end Go.Proofs.Ytigicbnkfmbolaa.R6

namespace Go.Proofs.Ytigicbnkfmbolaa.R6
open Go.RowKit Go.Shelf Go.Proofs.Ytigicbnkfmbolaa.B
def litI (k : Nat) : Lit := .int .i64 (k : Int)
theorem lawI : Maps.Keyed Try.prog 3 := Maps.int_keyed Try.underlying3
theorem keyI {k : Nat} (h : k ≤ 9223372036854775807) : keyOf Try.prog 3 (.int .i64 (k : Int)) = some (litI k) := Maps.keyOf_int_mk Try.underlying3 (WalkArith.wf_i64 (by omega))
/-- How many of the first N are meant. -/
def cntS (S : Nat → Bool) (N : Nat) : Nat := ((List.range N).filter S).length
/-- Block b is a map that holds true just at the points of which S says so (c puts at most), of the first N. -/
def NS (w : World) (b c N : Nat) (S : Nat → Bool) : Prop :=
  ∃ D : DataW Unit, w.ownsMap Try.prog 3 (plainElem Try.prog 4) b c D ∧ Maps.size D = cntS S N ∧ ∀ i : Nat, Maps.has D (litI i) = S i ∧ D.atKey (litI i) (.lit (.bool false)) = .lit (.bool (S i))
theorem NS.made (w : World) (N : Nat) : NS (w.alloc (.map #[] 0)) w.heap.size 0 N (fun _ => false) := ⟨.map [], World.ownsMap_made w _ _ _, (by show 0 = _; unfold cntS; rw [List.filter_eq_nil_iff.2 (by simp)]; rfl), fun _ => ⟨rfl, rfl⟩⟩
theorem NS.lt {w : World} {b c N : Nat} {S : Nat → Bool} (h : NS w b c N S) : b < w.heap.size := by obtain ⟨D, h, _⟩ := h; exact h.lt
theorem NS.below {w w' : World} {b c N : Nat} {S : Nat → Bool} (h : NS w b c N S) (hb : Below w.heap.size w w') : NS w' b c N S := by
  have hl := h.lt
  obtain ⟨D, ⟨es, clock, h1, h2⟩, h3⟩ := h
  exact ⟨D, ⟨es, clock, (hb.block b hl).trans h1, h2⟩, h3⟩
theorem NS.mono {w : World} {b c d N : Nat} {S : Nat → Bool} (h : NS w b c N S) (hc : c ≤ d) : NS w b d N S := by
  obtain ⟨D, h, hf⟩ := h; exact ⟨D, h.mono hc, hf⟩
theorem NS.congr {w : World} {b c N : Nat} {S S' : Nat → Bool} (h : NS w b c N S) (e : ∀ i, S i = S' i) : NS w b c N S' := by
  obtain rfl : S = S' := funext e
  exact h
end Go.Proofs.Ytigicbnkfmbolaa.R6

namespace Go.Proofs.Ytigicbnkfmbolaa.N7
open Go.RowKit Go.Shelf Go.Proofs.Ytigicbnkfmbolaa.B Go.Proofs.Ytigicbnkfmbolaa.R6
/-- The value of each key of a set. -/
noncomputable def Ru (v : Value) : Option (DataW Unit × List MemPlace) := @ite _ (v = .agg #[]) (Classical.propDecidable _) (some (.lit (.bool true), [])) none
theorem Ru_unit : Ru (.agg #[]) = some (.lit (.bool true), []) := by unfold Ru; rw [if_pos rfl]
theorem Ru_inv {v : Value} {y : DataW Unit × List MemPlace} (h : Ru v = some y) : v = .agg #[] := by
  unfold Ru at h
  by_cases e : v = .agg #[]
  · exact e
  · rw [if_neg e] at h; cases h
/-- Block b is a map that holds just these keys (c puts at most). -/
def MS (T : TypeId) (w : World) (b c : Nat) (S : Lit → Prop) : Prop :=
  ∃ D : DataW Unit, w.ownsMap Try.prog T Ru b c D ∧ ∀ l, Maps.has D l = true ↔ S l
section
variable {T : TypeId} {w w' : World} {b c d : Nat} {S S' : Lit → Prop}
theorem MS.made (T : TypeId) (w : World) : MS T (w.alloc (.map #[] 0)) w.heap.size 0 (fun _ => False) := ⟨.map [], World.ownsMap_made w _ _ _, fun _ => ⟨fun h => (by cases h), fun h => False.elim h⟩⟩
theorem MS.lt (h : MS T w b c S) : b < w.heap.size := by obtain ⟨D, h, _⟩ := h; exact h.lt
theorem MS.block (h : MS T w b c S) (hb : w'.heap[b]? = w.heap[b]?) : MS T w' b c S := by
  obtain ⟨D, ⟨es, clock, h1, h2⟩, h3⟩ := h
  exact ⟨D, ⟨es, clock, hb.trans h1, h2⟩, h3⟩
theorem MS.below (h : MS T w b c S) (hb : Below w.heap.size w w') : MS T w' b c S := h.block (hb.block b h.lt)
theorem MS.kept {row : Option Nat} (h : MS T w b c S) (hg : w.grownBy w' row) (hne : some b ≠ row) : MS T w' b c S := by
  obtain ⟨D, h1, h2⟩ := h
  exact ⟨D, h1.kept hg hne, h2⟩
theorem MS.mono (h : MS T w b c S) (hc : c ≤ d) : MS T w b d S := by obtain ⟨D, h, hf⟩ := h; exact ⟨D, h.mono hc, hf⟩
theorem MS.congr (h : MS T w b c S) (e : ∀ l, S l ↔ S' l) : MS T w b c S' := by obtain ⟨D, h, hf⟩ := h; exact ⟨D, h, fun l => (hf l).trans (e l)⟩
theorem MS.put {t e : TypeId} (K : Maps.Keyed Try.prog T) (ht : Try.prog.underlying t = some (.map T e)) (h : MS T w b c S) (hc : c < maxLen) {key : Value} {kl : Lit} (hk : keyOf Try.prog T key = some kl) :
    ∃ w1, (Instr.mapUpdate t (.map (some b)) key (.agg #[])).run Try.prog w = .ok () w1 ∧ MS T w1 b (c + 1) (fun l => S l ∨ l = kl) ∧ w.grownBy w1 (some b) := by
  obtain ⟨D, h, hf⟩ := h
  obtain ⟨w1, h1, h2, h3⟩ := h.update K ht hc hk Ru_unit
  refine ⟨w1, h1, ⟨_, h2, fun l => ?_⟩, h3⟩
  by_cases e : l = kl
  · subst e
    rw [Maps.has_put_same h.isMap (K.key hk)]
    exact ⟨fun _ => .inr rfl, fun _ => rfl⟩
  · rw [Maps.has_put_other e, hf]
    exact ⟨.inl, fun h => h.resolve_right e⟩
end
/-- The points of a set. -/
def IL (N : Nat) (S : Nat → Bool) (l : Lit) : Prop := ∃ i, i < N ∧ S i = true ∧ l = litI i
def inL (N : Nat) (S : Nat → Bool) : List Int := ((List.range N).filter S).map fun j : Nat => (j : Int)
theorem inL_len (N : Nat) (S : Nat → Bool) : (inL N S).length ≤ N := by
  unfold inL
  rw [List.length_map]
  have := List.length_filter_le S (List.range N)
  rwa [List.length_range] at this
theorem inL_mem {N : Nat} {S : Nat → Bool} {x : Int} : x ∈ inL N S ↔ ∃ i : Nat, i < N ∧ S i = true ∧ x = (i : Int) := by
  unfold inL
  rw [List.mem_map]
  constructor
  · rintro ⟨i, hi, rfl⟩
    obtain ⟨h1, h2⟩ := List.mem_filter.1 hi
    exact ⟨i, List.mem_range.1 h1, h2, rfl⟩
  · rintro ⟨i, h1, h2, rfl⟩
    exact ⟨i, List.mem_filter.2 ⟨List.mem_range.2 h1, h2⟩, rfl⟩
theorem inL_up (N : Nat) (S : Nat → Bool) : (inL N S).Pairwise (· < ·) := by
  unfold inL
  rw [List.pairwise_map]
  exact ((List.pairwise_lt_range).filter _).imp (fun h => by omega)
theorem inL_sorted (N : Nat) (S : Nat → Bool) : (inL N S).mergeSort leI = inL N S := by
  refine List.Perm.eq_of_pairwise (le := fun a b => leI a b = true) (fun a b _ _ h1 h2 => ?_) (List.pairwise_mergeSort ?_ ?_ _) ((inL_up N S).imp (fun h => by simp only [leI, decide_eq_true_eq]; omega)) (List.mergeSort_perm _ _)
  · simp only [leI, decide_eq_true_eq] at h1 h2; omega
  · intro a b c h1 h2; simp only [leI, decide_eq_true_eq] at *; omega
  · intro a b; simp only [leI, Bool.or_eq_true, decide_eq_true_eq]; omega
theorem MS.keys {w : World} {b c N : Nat} {S : Nat → Bool} (h : MS 3 w b c (IL N S)) : ∃ D : DataW Unit, w.ownsMap Try.prog 3 Ru b c D ∧ (inL N S).Perm (intKeys D) ∧ Maps.size D ≤ N := by
  obtain ⟨D, h, hf⟩ := h
  obtain ⟨es, hD, hpw, _⟩ := h.entries lawI
  obtain ⟨es', hD', hko⟩ := h.keysOf
  obtain rfl : es = es' := by rw [hD] at hD'; simpa using hD'
  subst hD
  have hp : (inL N S).Perm (intKeys (.map es)) := perm_intKeys hpw (fun p hp => by obtain ⟨v, hv⟩ := hko p hp; obtain ⟨x, _, hx, _⟩ := Maps.keyOf_i64 Try.underlying3 hv; exact ⟨x, hx⟩)
    ((inL_up N S).imp (fun h => by omega)) (fun x => by
      rw [hf, inL_mem]
      constructor
      · rintro ⟨i, h1, h2, rfl⟩; exact ⟨i, h1, h2, rfl⟩
      · rintro ⟨i, h1, h2, e⟩
        refine ⟨i, h1, h2, ?_⟩
        simp only [litI, Lit.int.injEq, true_and] at e; exact e)
  refine ⟨_, h, hp, ?_⟩
  have h1 := hp.length_eq
  have h2 := inL_len N S
  have h3 : (intKeys (.map es : DataW Unit)).length = es.length := List.length_map _
  show es.length ≤ N
  omega
theorem keys_sorted {N : Nat} {S : Nat → Bool} {D : DataW Unit} {ss : List Int} (h : (inL N S).Perm (intKeys D)) (hs : ss.Perm (intKeys D)) : ss.mergeSort (fun x y => decide (x ≤ y)) = inL N S :=
  (mergeSort_of_perm_i (hs.trans h.symm)).trans (inL_sorted N S)
end Go.Proofs.Ytigicbnkfmbolaa.N7

namespace Go.Proofs.Ytigicbnkfmbolaa.N7
open Go.RowKit Go.Shelf Go.Proofs.Ytigicbnkfmbolaa.B Go.Proofs.Ytigicbnkfmbolaa.R6
/-- What stands while a set is copied into another one. -/
structure CI (T : TypeId) (w : World) (bd bs r nd ns : Nat) (Sd Ss : Lit → Prop) (D : DataW Unit) (left : Lit → Bool) (cnt : Nat) (W : World) : Prop where
  rg : W.ranges Try.prog T Ru bs r ns D left cnt
  m : ∃ k, k + cnt ≤ ns ∧ MS T W bd (nd + k) (fun l => Sd l ∨ (Ss l ∧ left l = false))
  g : w.grownBy W (some bd)
  ss : ∀ l, Maps.has D l = true ↔ Ss l
theorem CI.alloc {T : TypeId} {w W : World} {bd bs r nd ns cnt : Nat} {Sd Ss : Lit → Prop} {D : DataW Unit} {left : Lit → Bool} (h : CI T w bd bs r nd ns Sd Ss D left cnt W) (o : Obj) : CI T w bd bs r nd ns Sd Ss D left cnt (W.alloc o) := by
  obtain ⟨h1, ⟨k, h2, h3⟩, h4, h5⟩ := h
  have hg := World.grownBy_alloc W o none
  exact ⟨h1.kept hg (by simp) (by simp), ⟨k, h2, h3.kept hg (by simp)⟩, h4.andThen hg (fun j hj => by cases hj), h5⟩
theorem CI.start {T : TypeId} {w w0 : World} {bd bs nd ns : Nat} {Sd Ss : Lit → Prop} {D : DataW Unit} (hd : MS T w bd nd Sd) (hs : w.ownsMap Try.prog T Ru bs ns D) (hS : ∀ l, Maps.has D l = true ↔ Ss l)
    (hrg : w0.ranges Try.prog T Ru bs w.heap.size ns D (Maps.has D) (Maps.size D)) (hg : w.grownBy w0 none) : CI T w bd bs w.heap.size nd ns Sd Ss D (Maps.has D) (Maps.size D) w0 := by
  have hz := hs.size_le
  refine ⟨hrg, ⟨0, by omega, (hd.kept hg (by simp)).congr (fun l => ?_)⟩, hg.but _, hS⟩
  constructor
  · exact .inl
  · rintro (h | ⟨h1, h2⟩)
    · exact h
    · rw [(hS l).2 h1] at h2; cases h2
/-- An entry has come. -/
theorem CI.come {T : TypeId} {w W W1 : World} {bd bs r nd ns cnt : Nat} {Sd Ss : Lit → Prop} {D : DataW Unit} {left : Lit → Bool} (h : CI T w bd bs r nd ns Sd Ss D left cnt W) (hg : W.grownBy W1 (some r)) (hw : w.heap.size ≤ r) (hbd : bd < w.heap.size) : w.grownBy W1 (some bd) ∧ ∃ k, k + cnt ≤ ns ∧ MS T W1 bd (nd + k) (fun l => Sd l ∨ (Ss l ∧ left l = false)) := by
  obtain ⟨h1, ⟨k, h2, h3⟩, h4, h5⟩ := h
  exact ⟨h4.andThen hg (fun j hj => .inl (by cases hj; exact hw)), k, h2, h3.kept hg (fun e => by have := Option.some.inj e; omega)⟩
/-- It has been put. -/
theorem CI.next {T t e : TypeId} (K : Maps.Keyed Try.prog T) (ht : Try.prog.underlying t = some (.map T e)) {w W : World} {bd bs r nd ns cnt cnt1 : Nat} {Sd Ss : Lit → Prop} {D : DataW Unit} {left : Lit → Bool} {kl : Lit} {key : Value}
    (hrg : W.ranges Try.prog T Ru bs r ns D (fun z => left z && !z.sameKey kl) cnt1) (hm : ∃ k, k + cnt ≤ ns ∧ MS T W bd (nd + k) (fun l => Sd l ∨ (Ss l ∧ left l = false))) (hg : w.grownBy W (some bd)) (hS : ∀ l, Maps.has D l = true ↔ Ss l)
    (hk : keyOf Try.prog T key = some kl) (hat : Maps.has D kl = true) (hc : cnt1 < cnt) (hroom : nd + ns < maxLen) (hne : bd ≠ bs) (hr : w.heap.size ≤ r) (hbd : bd < w.heap.size) :
    ∃ w1, (Instr.mapUpdate t (.map (some bd)) key (.agg #[])).run Try.prog W = .ok () w1 ∧ CI T w bd bs r nd ns Sd Ss D (fun z => left z && !z.sameKey kl) cnt1 w1 := by
  obtain ⟨k, h1, h2⟩ := hm
  obtain ⟨w1, g1, g2, g3⟩ := h2.put K ht (by omega) hk
  refine ⟨w1, g1, hrg.kept g3 (fun e => hne (Option.some.inj e).symm) (fun e => by have := Option.some.inj e; omega), ⟨k + 1, by omega, g2.congr (fun l => ?_)⟩, hg.andThen g3 (fun j hj => .inr hj), hS⟩
  constructor
  · rintro ((h | ⟨a, b⟩) | rfl)
    · exact .inl h
    · exact .inr ⟨a, by rw [b]; rfl⟩
    · exact .inr ⟨(hS _).1 hat, by rw [WideAt.sameKey_self (K.key hk)]; simp⟩
  · rintro (h | ⟨a, b⟩)
    · exact .inl (.inl h)
    · cases e : left l with
      | false => exact .inl (.inr ⟨a, rfl⟩)
      | true =>
        rw [e, Bool.true_and, Bool.not_eq_false'] at b
        exact .inr (WideAt.sameKey_eq b)
theorem CI.done {T : TypeId} {w W : World} {bd bs r nd ns cnt : Nat} {Sd Ss : Lit → Prop} {D : DataW Unit} {left : Lit → Bool} (h : CI T w bd bs r nd ns Sd Ss D left cnt W) (hl : ∀ l, left l = false) : MS T W bd (nd + ns) (fun l => Sd l ∨ Ss l) ∧ w.grownBy W (some bd) := by
  obtain ⟨h1, ⟨k, h2, h3⟩, h4, h5⟩ := h
  exact ⟨(h3.mono (by omega)).congr (fun l => by rw [hl l]; simp), h4⟩
set_option maxRecDepth 100000 in
set_option maxHeartbeats 4000000 in
theorem copy_int (w : World) (bd bs nd ns : Nat) (Sd Ss : Lit → Prop) (hd : MS 3 w bd nd Sd) (hs : MS 3 w bs ns Ss) (hne : bd ≠ bs) (hroom : nd + ns < maxLen) :
    Calls Try.prog 58 #[.map (some bd), .map (some bs)] w fun e w' => e = .returned (.tuple #[]) ∧ MS 3 w' bd (nd + ns) (fun l => Sd l ∨ Ss l) ∧ w.grownBy w' (some bd) := by
  obtain ⟨D, hown, hS⟩ := hs
  have hbd := hd.lt
  have HD := Lib.hid hd
  have HS := Lib.hid hS
  have HO := Lib.hid hown
  clear hd hS hown
  go_enter Try.func58, Try.ntmps58
  go_wp2_with (at_range; refine wpList_range_own _ rfl _ 52 rfl 3 77 lawI Try.underlying52 Ru bs ns D rfl HO.out ?_; intro w0 hrg0 hg0 hs0)
  go_frame
  have C0 := Lib.hid (CI.start HD.out HO.out HS.out hrg0 hg0)
  clear hrg0 hg0 hs0
  go_loopw [] (fun wr => ∃ left cnt, Hid (CI 3 w bd bs w.heap.size nd ns Sd Ss D left cnt wr)) (fun wr => wr.rangeLeft bs w.heap.size)
  case atStart => exact ⟨_, _, C0⟩
  case round =>
    clear C0
    obtain ⟨left, cnt, CC⟩ := hrel
    go_wp2_with (at_next; refine wpList_next_ranges _ rfl _ rfl 3 lawI Ru (Value.int .i64) (fun _ : Unit => Value.agg #[]) (fun key kl hk => by obtain ⟨x, hx, _⟩ := Maps.keyOf_i64 Try.underlying3 hk; exact ⟨x, hx⟩) (fun v y hy => ⟨(), Ru_inv hy⟩) bs w.heap.size ns _ _ _ rfl CC.out.rg ?_ ?_)
    · intro hc0 hl0
      have hfin := Lib.hid (CC.out.done hl0)
      clear hl0 CC
      subst hc0
      go_wp2_with fail
      go_end0
      exact ⟨rfl, hfin.out.1, hfin.out.2⟩
    · intro x c kl y w1 cnt1 hkey hlx hRv hat hrg1 hlt1 hg1 hs1 hen
      obtain ⟨hgw, hmw⟩ := CC.out.come hg1 (Nat.le_refl _) hbd
      have hhas := Maps.has_true_of_atKey hat
      have hal := World.grownBy_alloc w1 (.cells #[] 77) none
      have hl := hrg1.lt
      obtain ⟨k, hk1, hk2⟩ := hmw
      obtain ⟨w2, hput, hC2⟩ := CI.next (e := 77) lawI Try.underlying52 (hrg1.kept hal (by simp) (by simp)) ⟨k, hk1, hk2.kept hal (by simp)⟩ (hgw.andThen hal (fun j hj => by cases hj)) HS.out hkey hhas hlt1 hroom hne (Nat.le_refl _) hbd
      have C2 := Lib.hid hC2
      have HL := Lib.hid CC.out.rg.left_eq
      have HC := Lib.hid hlt1
      clear hal hk1 hk2 hgw hhas hrg1 hg1 hs1 hkey hlx hRv hat hC2 CC hlt1
      go_wp2_with fail
      go_roundw
      case rel => exact ⟨_, _, C2⟩
      case measure => rw [C2.out.rg.left_eq, HL.out]; exact HC.out
end Go.Proofs.Ytigicbnkfmbolaa.N7

namespace Go.Proofs.Ytigicbnkfmbolaa.I
open Go.Shelf
def lays189_ren : Go.Shelf.Ren := ⟨fun | 189 => 34 | 125 => 49 | 257 => 48 | 128 => 68 | 129 => 69 | 294 => 59 | 295 => 60 | 296 => 61 | 297 => 62 | 298 => 63 | 299 => 64 | 216 => 65 | 300 => 66 | 301 => 67 | 328 => 75 | 329 => 76 | 330 => 77 | 331 => 78 | 332 => 79 | 215 => 80 | 343 => 81 | n => n, fun | 28 => 33 | 3 => 3 | 46 => 85 | 0 => 0 | 51 => 101 | 53 => 103 | 4 => 4 | 183 => 94 | 182 => 93 | 131 => 79 | 5 => 5 | 9 => 9 | 218 => 105 | 222 => 109 | 228 => 111 | 229 => 112 | n => n, fun | n => n⟩
theorem lays189 : Go.Proofs.Lays.n189 Try.prog lays189_ren := {
  mixed := by kernel_rfl
  f125 := Try.func49.trans (congrArg some (by kernel_rfl))
  f128 := Try.func68.trans (congrArg some (by kernel_rfl))
  f129 := Try.func69.trans (congrArg some (by kernel_rfl))
  f189 := Try.func34.trans (congrArg some (by kernel_rfl))
  f215 := Try.func80.trans (congrArg some (by kernel_rfl))
  f216 := Try.func65.trans (congrArg some (by kernel_rfl))
  f257 := Try.func48.trans (congrArg some (by kernel_rfl))
  f294 := Try.func59.trans (congrArg some (by kernel_rfl))
  f295 := Try.func60.trans (congrArg some (by kernel_rfl))
  f296 := Try.func61.trans (congrArg some (by kernel_rfl))
  f297 := Try.func62.trans (congrArg some (by kernel_rfl))
  f298 := Try.func63.trans (congrArg some (by kernel_rfl))
  f299 := Try.func64.trans (congrArg some (by kernel_rfl))
  f300 := Try.func66.trans (congrArg some (by kernel_rfl))
  f301 := Try.func67.trans (congrArg some (by kernel_rfl))
  f328 := Try.func75.trans (congrArg some (by kernel_rfl))
  f329 := Try.func76.trans (congrArg some (by kernel_rfl))
  f330 := Try.func77.trans (congrArg some (by kernel_rfl))
  f331 := Try.func78.trans (congrArg some (by kernel_rfl))
  f332 := Try.func79.trans (congrArg some (by kernel_rfl))
  f343 := Try.func81.trans (congrArg some (by kernel_rfl))
  t0 := Try.underlying0
  a0 := Try.isAgg0
  z0 := Try.sizeOf0
  v0 := Try.zeroValue0
  t3 := Try.underlying3
  a3 := Try.isAgg3
  z3 := Try.sizeOf3
  v3 := Try.zeroValue3
  t4 := Try.underlying4
  a4 := Try.isAgg4
  z4 := Try.sizeOf4
  v4 := Try.zeroValue4
  t5 := Try.underlying5
  a5 := Try.isAgg5
  z5 := Try.sizeOf5
  v5 := Try.zeroValue5
  t9 := Try.underlying9
  a9 := Try.isAgg9
  z9 := Try.sizeOf9
  v9 := Try.zeroValue9
  t28 := Try.underlying33
  a28 := Try.isAgg33
  z28 := Try.sizeOf33
  v28 := Try.zeroValue33
  t46 := Try.underlying85
  a46 := Try.isAgg85
  z46 := Try.sizeOf85
  v46 := Try.zeroValue85
  t51 := Try.underlying101
  a51 := Try.isAgg101
  z51 := Try.sizeOf101
  v51 := Try.zeroValue101
  t53 := Try.underlying103
  a53 := Try.isAgg103
  z53 := Try.sizeOf103
  v53 := Try.zeroValue103
  t131 := Try.underlying79
  a131 := Try.isAgg79
  z131 := Try.sizeOf79
  v131 := Try.zeroValue79
  t182 := Try.underlying93
  a182 := Try.isAgg93
  z182 := Try.sizeOf93
  v182 := Try.zeroValue93
  t183 := Try.underlying94
  a183 := Try.isAgg94
  z183 := Try.sizeOf94
  v183 := Try.zeroValue94
  t218 := Try.underlying105
  a218 := Try.isAgg105
  z218 := Try.sizeOf105
  v218 := Try.zeroValue105
  t222 := Try.underlying109
  a222 := Try.isAgg109
  z222 := Try.sizeOf109
  v222 := Try.zeroValue109
  t228 := Try.underlying111
  a228 := Try.isAgg111
  z228 := Try.sizeOf111
  v228 := Try.zeroValue111
  t229 := Try.underlying112
  a229 := Try.isAgg112
  z229 := Try.sizeOf112
  v229 := Try.zeroValue112 }
open Go.Sort Go.RowKit in
theorem slices_Sort_int (blk off cap : Nat) (zs : List Int) (w : World) (hH : Holds (Value.int .i64) w blk off zs.toArray) (hblk : blk < w.heap.size) (hsz : zs.length < 4611686018427387904) :
    Calls Try.prog 34 #[.slice (some ⟨blk, off, none⟩) zs.length cap] w fun e w' =>
      e = .returned (.tuple #[]) ∧ ∃ n os, w' = grow (putRow (Value.int .i64) (Sort.ahead w n) blk off (zs.mergeSort fun x y => decide (x ≤ y)).toArray) os := Any.slices_Sort_int lays189 blk off cap zs w hH hblk hsz
open Go.RowKit Go.Sort in
theorem slices_Sort_int_none (p : Option Addr) (cap : Nat) (w : World) :
    Calls Try.prog 34 #[.slice p 0 cap] w fun e w' => e = .returned (.tuple #[]) ∧ w' = w := Any.slices_Sort_int_none lays189 p cap w
def keysI_ren : Go.Shelf.Ren := ⟨fun | 7 => 45 | 10 => 57 | n => n, fun | 23 => 52 | 26 => 3 | 3 => 77 | 28 => 75 | 0 => 0 | 27 => 74 | 33 => 90 | 4 => 4 | n => n, fun | n => n⟩
theorem keysI : Go.Proofs.SlLaysZI.n7 Try.prog keysI_ren := {
  mixed := by kernel_rfl
  f7 := ⟨Try.f45.name, by decide, Try.func45.trans (congrArg some (by kernel_rfl))⟩
  f10 := ⟨Try.f57.name, by decide, Try.func57.trans (congrArg some (by kernel_rfl))⟩
  t0 := Try.underlying0
  a0 := Try.isAgg0
  z0 := Try.sizeOf0
  v0 := Try.zeroValue0
  t4 := Try.underlying4
  a4 := Try.isAgg4
  z4 := Try.sizeOf4
  v4 := Try.zeroValue4
  t23 := Try.underlying52
  a23 := Try.isAgg52
  z23 := Try.sizeOf52
  v23 := Try.zeroValue52
  t26 := Try.underlying3
  a26 := Try.isAgg3
  z26 := Try.sizeOf3
  v26 := Try.zeroValue3
  t27 := Try.underlying74
  a27 := Try.isAgg74
  z27 := Try.sizeOf74
  v27 := Try.zeroValue74
  t28 := Try.underlying75
  a28 := Try.isAgg75
  z28 := Try.sizeOf75
  v28 := Try.zeroValue75
  t33 := Try.underlying90
  a33 := Try.isAgg90
  z33 := Try.sizeOf90
  v33 := Try.zeroValue90 }
def sortedI_ren : Go.Shelf.Ren := ⟨fun | 6 => 44 | 8 => 56 | 9 => 34 | 11 => 74 | 13 => 49 | 12 => 48 | 23 => 68 | 24 => 69 | 14 => 59 | 15 => 60 | 16 => 61 | 17 => 62 | 18 => 63 | 19 => 64 | 20 => 65 | 21 => 66 | 22 => 67 | 25 => 75 | 26 => 76 | 27 => 77 | 28 => 78 | 29 => 79 | 30 => 80 | 31 => 81 | n => n, fun | 26 => 3 | 28 => 75 | 24 => 33 | 0 => 0 | 3 => 3 | 37 => 85 | 48 => 101 | 50 => 103 | 4 => 4 | 40 => 94 | 39 => 93 | 45 => 79 | 5 => 5 | 9 => 9 | 51 => 105 | 55 => 109 | 57 => 111 | 58 => 112 | 33 => 90 | n => n, fun | n => n⟩
theorem sortedI : Go.Proofs.SlLaysZI.n6 Try.prog sortedI_ren := {
  mixed := by kernel_rfl
  f6 := ⟨Try.f44.name, by decide, Try.func44.trans (congrArg some (by kernel_rfl))⟩
  f8 := ⟨Try.f56.name, by decide, Try.func56.trans (congrArg some (by kernel_rfl))⟩
  f11 := ⟨Try.f74.name, by decide, Try.func74.trans (congrArg some (by kernel_rfl))⟩
  t0 := Try.underlying0
  a0 := Try.isAgg0
  z0 := Try.sizeOf0
  v0 := Try.zeroValue0
  t24 := Try.underlying33
  a24 := Try.isAgg33
  z24 := Try.sizeOf33
  v24 := Try.zeroValue33
  t26 := Try.underlying3
  a26 := Try.isAgg3
  z26 := Try.sizeOf3
  v26 := Try.zeroValue3
  t28 := Try.underlying75
  a28 := Try.isAgg75
  z28 := Try.sizeOf75
  v28 := Try.zeroValue75
  i26 := by kernel_rfl }
end Go.Proofs.Ytigicbnkfmbolaa.I
