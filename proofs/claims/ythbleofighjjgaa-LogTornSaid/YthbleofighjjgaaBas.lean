/-
  Helpers that name no function of the program: cells, blocks, owned rows, searches, lists that are held against each other, copy of a list of structs.
-/
import Derived.Test.YthbleofighjjgaaFlT
import Derived.WalkKit
import Derived.WalkSpells
import Derived.WalkLawsBesides
import Derived.OwnWalk
import Derived.Lib.Hide
import Derived.Lib.Strings
import Derived.Laws.OwnMore
import Derived.Laws.CopyRow
import Derived.Shelf.Abstract
import Derived.Shelf.RegionOpen
import Derived.BigQuiet
import Derived.Deep.QuietTactic
import Derived.RegionTactic
import Derived.Outline
import Derived.LoopIn
namespace Go.Proofs.Ythbleofighjjgaa.B
open Go.RowKit Go.Shelf

theorem ret_bool {a b : Bool} (h : a = b) : Ending.returned (.bool a) = .returned (.bool b) := by rw [h]
theorem ret_i64 {a b : Int} (h : a = b) : Ending.returned (.int .i64 a) = .returned (.int .i64 b) := by rw [h]
theorem mem_at {α : Type} [Inhabited α] {l : List α} {i : Nat} (h : i < l.length) : l[i]! ∈ l := by rw [getElem!_pos l i h]; exact List.getElem_mem h

/-! ### cells and blocks -/
theorem heap_new (w : World) (o : Obj) : (w.alloc o).heap[w.heap.size]? = some o := heap_alloc_new w o
theorem heap_old {w : World} {o : Obj} {k : Nat} {u : Option Obj} (h : k < w.heap.size) (hu : w.heap[k]? = u) : (w.alloc o).heap[k]? = u := (Below.heap_alloc w o k h).trans hu
theorem cell_blk {w : World} {b i : Nat} {cs : Array Value} {t : TypeId} {v : Value} (h : w.heap[b]? = some (.cells cs t (0, 0))) (hi : cs[i]? = some v) : w.cell? ⟨b, i, none⟩ = some v := by
  unfold World.cell?; simp only; rw [h]; exact hi
theorem frozen_blk {w : World} {b i : Nat} {cs : Array Value} {t : TypeId} (h : w.heap[b]? = some (.cells cs t (0, 0))) : w.frozen? ⟨b, i, none⟩ = false := by
  unfold World.frozen?; simp only; rw [h]; simp
theorem blk_set {w : World} {b i : Nat} {cs : Array Value} {t : TypeId} {v : Value} (h : w.heap[b]? = some (.cells cs t (0, 0))) : (w.setCell ⟨b, i, none⟩ v).heap[b]? = some (.cells (cs.setIfInBounds i v) t (0, 0)) := by
  simp [World.setCell, Array.getElem?_modify, h]
theorem blk_other {w : World} {b c i : Nat} {v : Value} (h : c ≠ b) : (w.setCell ⟨b, i, none⟩ v).heap[c]? = w.heap[c]? := Below.heap_setCell _ _ _ _ h
theorem blk_lt {w : World} {b : Nat} {o : Obj} (h : w.heap[b]? = some o) : b < w.heap.size := (Array.getElem?_eq_some_iff.1 h).1
theorem below_draws {B : Nat} {a w : World} (h : Below B a w) (n : Nat) : Below B a (w.drewN n) := ⟨h.os, h.tape, h.output, h.size, h.block⟩
theorem quiet_left {P : Program} {f : FuncId} {args : Array Value} {w : World} {n : Nat} {v : Value}
    (h : Calls P f args (w.drewN n) fun e w' => e = .returned v ∧ w.drewN n = w') : Calls P f args (w.drewN n) fun e w'' => e = .returned v ∧ ∃ m, w'' = w.drewN m :=
  h.mono fun _ _ ⟨he, hm⟩ => ⟨he, n, hm.symm⟩

/-! ### rows that a call has made -/
theorem own_slice {w : World} {B e z n : Nat} {v : Value} {xs : List Value} (h : w.ownsRow B e z v n xs) : ∃ ao cap, v = .slice ao n cap := by
  rcases h.2 with ⟨hv, h0⟩ | ⟨g, cap, cur, hv, _⟩
  · exact ⟨none, 0, by rw [hv, h0]⟩
  · exact ⟨_, _, hv⟩
theorem own_below {w w1 : World} {B e z n : Nat} {v : Value} {xs : List Value} (h : w.ownsRow B e z v n xs) (hb : Below w.heap.size w w1) : w1.ownsRow B e z v n xs :=
  h.kept (row := none) ⟨hb.os, hb.tape, hb.output, hb.size, fun k hk _ => hb.block k hk⟩ (by cases hv : v.ownBlock <;> simp)
theorem own_base {w : World} {B B' e z n : Nat} {v : Value} {xs : List Value} (h : w.ownsRow B e z v n xs) (hB : B' ≤ B) : w.ownsRow B' e z v n xs := by
  refine ⟨h.1, ?_⟩
  rcases h.2 with h | ⟨g, cap, cur, h1, h2, h3⟩
  · exact .inl h
  · exact .inr ⟨g, cap, cur, h1, Nat.le_trans hB h2, h3⟩
theorem own_far {w : World} {B e z n b : Nat} {v : Value} {xs : List Value} {cs : Array Value} {T : TypeId} (hown : w.ownsRow B e z v n xs) (h : w.heap[b]? = some (.cells cs T (0, 0))) (he : e ≠ T) : v.ownBlock ≠ some b := by
  rcases hown.2 with ⟨rfl, _⟩ | ⟨g, cap, cur, rfl, _, hg, _⟩
  · intro hh; cases hh
  · intro hh
    simp only [Value.ownBlock, Option.some.injEq] at hh
    subst hh
    rw [h] at hg
    simp only [Option.some.injEq, Obj.cells.injEq] at hg
    exact he hg.2.1.symm
theorem own_set {w : World} {B e z n b i : Nat} {v : Value} {xs : List Value} (h : w.ownsRow B e z v n xs) (hne : v.ownBlock ≠ some b) (u : Value) : (w.setCell ⟨b, i, none⟩ u).ownsRow B e z v n xs :=
  h.kept (row := some b) ⟨rfl, rfl, rfl, by simp, fun k _ hk => Below.heap_setCell _ _ _ _ (fun e => hk (by rw [e]))⟩ (.inr hne)
theorem own_cap {w : World} {B e z n c : Nat} {A : Option Addr} {xs : List Value} (h : w.ownsRow B e z (.slice A n c) n xs) : n ≤ c ∧ (A = none → c = 0) := by
  rcases h.2 with ⟨hv, h0⟩ | ⟨g, cap, cur, hv, _, _, hn, _⟩
  · injection hv with _ h2 h3; exact ⟨by omega, fun _ => h3⟩
  · injection hv with h1 _ h3; exact ⟨by omega, fun e => by rw [e] at h1; cases h1⟩
/-- A row that is not empty lies at the head of a block. -/
theorem own_head {w : World} {B e z n : Nat} {v : Value} {xs : List Value} (h : w.ownsRow B e z v n xs) (h0 : 0 < n) : ∃ g cap, v = .slice (some ⟨g, 0, none⟩) n cap ∧ B ≤ g ∧ g < w.heap.size := by
  rcases h.2 with ⟨_, hn⟩ | ⟨g, cap, cur, hv, hg, hh, _⟩
  · omega
  · exact ⟨g, cap, hv, hg, blk_lt hh⟩
theorem flat_one {α : Type} {enc : α → List Value} (h : ∀ x, ∀ u ∈ enc x, u.oneCell' = true) (l : List α) : ∀ u ∈ l.flatMap enc, u.oneCell' = true := by
  intro u hu
  obtain ⟨x, _, hx⟩ := List.mem_flatMap.1 hu
  exact h x u hx
theorem flat_set {α : Type} (enc : α → List Value) (k : Nat) (hk : ∀ x, (enc x).length = k) : ∀ (l : List α) (i : Nat) (_ : i < l.length) (j : Nat) (_ : j < k) (v : Value) (y : α) (_ : ∀ x, l[i]? = some x → enc y = (enc x).set j v), (l.flatMap enc).set (i * k + j) v = (l.set i y).flatMap enc
  | [], i, h, _, _, _, _, _ => by simp at h
  | x :: r, 0, _, j, hj, v, y, hy => by
    rw [List.flatMap_cons, List.set_cons_zero, List.flatMap_cons, Nat.zero_mul, Nat.zero_add, List.set_append_left _ _ (by rw [hk]; exact hj), hy x rfl]
  | x :: r, i + 1, h, j, hj, v, y, hy => by
    have e : (i + 1) * k = i * k + k := Nat.succ_mul i k
    rw [List.flatMap_cons, List.set_cons_succ, List.flatMap_cons, List.set_append_right _ _ (by rw [hk]; omega), hk, show (i + 1) * k + j - k = i * k + j from by omega, flat_set enc k hk r i (by simpa using h) j hj v y (fun z hz => hy z (by simpa using hz))]
theorem get_some {α : Type} [Inhabited α] {l : List α} {k : Nat} {x : α} (h : l[k]? = some x) : x = l[k]! := by
  obtain ⟨hk, rfl⟩ := List.getElem?_eq_some_iff.1 h
  rw [getElem!_pos l k hk]
theorem set_at {α : Type} [Inhabited α] {l : List α} {k j : Nat} {y : α} (h : k ≠ j) : (l.set k y)[j]! = l[j]! := by
  by_cases hjl : j < l.length
  · rw [getElem!_pos _ j (by simpa using hjl), getElem!_pos l j hjl, List.getElem_set_ne h]
  · rw [getElem!_neg _ j (by simpa using hjl), getElem!_neg l j hjl]
theorem set_here {α : Type} [Inhabited α] {l : List α} {k : Nat} {y : α} (h : k < l.length) : (l.set k y)[k]! = y := by
  rw [getElem!_pos _ k (by simpa using h), List.getElem_set_self]

/-! ### the first k of a list -/
theorem take_next {α : Type} [Inhabited α] {l : List α} {k : Nat} (hk : k < l.length) : l.take (k + 1) = l.take k ++ [l[k]!] := by
  rw [List.take_succ_eq_append_getElem hk, ← getElem!_pos l k hk]
/-- Those of the first k that p takes. -/
def selL {α : Type} (p : α → Bool) (l : List α) (k : Nat) : List α := (l.take k).filter p
theorem sel_yes {α : Type} [Inhabited α] {p : α → Bool} {l : List α} {k : Nat} (hk : k < l.length) (h : p l[k]! = true) : selL p l (k + 1) = selL p l k ++ [l[k]!] := by
  rw [selL, take_next hk, List.filter_append, List.filter_cons_of_pos h]; rfl
theorem sel_no {α : Type} [Inhabited α] {p : α → Bool} {l : List α} {k : Nat} (hk : k < l.length) (h : p l[k]! = false) : selL p l (k + 1) = selL p l k := by
  rw [selL, take_next hk, List.filter_append, List.filter_cons_of_neg (by rw [h]; decide), List.filter_nil, List.append_nil]; rfl
theorem sel_len {α : Type} (p : α → Bool) (l : List α) (k : Nat) : (selL p l k).length ≤ k := by
  have h1 := List.length_filter_le p (l.take k)
  have h2 : (l.take k).length ≤ k := by rw [List.length_take]; omega
  unfold selL; omega
theorem sel_all {α : Type} (p : α → Bool) (l : List α) : selL p l l.length = l.filter p := by rw [selL, List.take_length]
theorem fold_next {α β : Type} [Inhabited α] {f : β → α → β} {b : β} {l : List α} {k : Nat} (hk : k < l.length) : (l.take (k + 1)).foldl f b = f ((l.take k).foldl f b) l[k]! := by
  rw [take_next hk, List.foldl_append]; rfl
theorem fold_all {α β : Type} {f : β → α → β} {b : β} {l : List α} : (l.take l.length).foldl f b = l.foldl f b := by rw [List.take_length]
theorem map_next {α β : Type} [Inhabited α] {f : α → β} {l : List α} {k : Nat} (hk : k < l.length) : (l.take (k + 1)).map f = (l.take k).map f ++ [f l[k]!] := by
  rw [take_next hk, List.map_append]; rfl

/-! ### searches -/
/-- Where the first of some is of which p holds; below 0: nowhere. -/
def idxB {α : Type} (p : α → Bool) (l : List α) : Int := match l.findIdx? p with | some i => (i : Int) | none => -1
theorem idxB_hit {α : Type} [Inhabited α] {p : α → Bool} {l : List α} {k : Nat} (hk : k < l.length) (hp : p l[k]! = true) (h : ∀ j, j < k → p l[j]! = false) : idxB p l = k := by
  have : l.findIdx? p = some k := by
    rw [List.findIdx?_eq_some_iff_getElem]
    refine ⟨hk, by rw [← getElem!_pos l k hk]; exact hp, fun j hj => ?_⟩
    have := h j hj
    rw [getElem!_pos l j (by omega)] at this
    simp [this]
  simp [idxB, this]
theorem idxB_miss {α : Type} [Inhabited α] {p : α → Bool} {l : List α} (h : ∀ j, j < l.length → p l[j]! = false) : idxB p l = -1 := by
  have : l.findIdx? p = none := by
    rw [List.findIdx?_eq_none_iff]
    intro x hx
    obtain ⟨j, hj, rfl⟩ := List.getElem_of_mem hx
    rw [← getElem!_pos l j hj]; exact h j hj
  simp [idxB, this]
theorem idxB_any {α : Type} (p : α → Bool) (l : List α) : decide (0 ≤ idxB p l) = l.any p := by
  unfold idxB
  cases h : l.findIdx? p with
  | none =>
    rw [List.findIdx?_eq_none_iff] at h
    have : l.any p = false := by simpa using h
    simp [this]
  | some i =>
    obtain ⟨hi, hp, _⟩ := List.findIdx?_eq_some_iff_getElem.1 h
    have : l.any p = true := by rw [List.any_eq_true]; exact ⟨_, List.getElem_mem hi, hp⟩
    rw [this]; simp
theorem all_step {α : Type} [Inhabited α] {p : α → Bool} {l : List α} {k : Nat} (h : ∀ j, j < k → p l[j]! = false) (hk : p l[k]! = false) : ∀ j, j < k + 1 → p l[j]! = false := by
  intro j hj
  by_cases e : j = k
  · rw [e]; exact hk
  · exact h j (by omega)
theorem any_miss {α : Type} [Inhabited α] {p : α → Bool} {l : List α} (h : ∀ j, j < l.length → p l[j]! = false) : l.any p = false := by
  rw [← idxB_any, idxB_miss h]; rfl
theorem any_hit {α : Type} [Inhabited α] {p : α → Bool} {l : List α} {k : Nat} (hk : k < l.length) (hp : p l[k]! = true) : l.any p = true := by
  rw [List.any_eq_true]; exact ⟨_, mem_at hk, hp⟩

/-! ### lists that are held against each other -/
def eqLB {α : Type} [Inhabited α] (p : α → α → Bool) (a b : List α) : Bool := decide (a.length = b.length) && (List.range a.length).all (fun i => p a[i]! b[i]!)
theorem eqLB_len {α : Type} [Inhabited α] {p : α → α → Bool} {a b : List α} (h : ¬ a.length = b.length) : eqLB p a b = false := by simp [eqLB, h]
theorem eqLB_all {α : Type} [Inhabited α] {p : α → α → Bool} {a b : List α} (h : a.length = b.length) (hp : ∀ j, j < a.length → p a[j]! b[j]! = true) : eqLB p a b = true := by
  simp only [eqLB, decide_eq_true h, Bool.true_and, List.all_eq_true, List.mem_range]; exact hp
theorem eqLB_bad {α : Type} [Inhabited α] {p : α → α → Bool} {a b : List α} {k : Nat} (hk : k < a.length) (hp : p a[k]! b[k]! = false) : eqLB p a b = false := by
  have : (List.range a.length).all (fun i => p a[i]! b[i]!) = false := by
    rw [List.all_eq_false]; exact ⟨k, List.mem_range.2 hk, by rw [hp]; decide⟩
  rw [eqLB, this, Bool.and_false]
theorem all_more {α : Type} [Inhabited α] {p : α → α → Bool} {a b : List α} {k : Nat} (h : ∀ j, j < k → p a[j]! b[j]! = true) (hk : p a[k]! b[k]! = true) : ∀ j, j < k + 1 → p a[j]! b[j]! = true := by
  intro j hj
  by_cases e : j = k
  · rw [e]; exact hk
  · exact h j (by omega)
theorem eqLB_iff {α : Type} [Inhabited α] {p : α → α → Bool} {a b : List α} : eqLB p a b = true ↔ a.length = b.length ∧ ∀ j, j < a.length → p a[j]! b[j]! = true := by
  rw [eqLB, Bool.and_eq_true, decide_eq_true_eq, List.all_eq_true]
  exact ⟨fun ⟨h1, h2⟩ => ⟨h1, fun j hj => h2 j (List.mem_range.2 hj)⟩, fun ⟨h1, h2⟩ => ⟨h1, fun j hj => h2 j (List.mem_range.1 hj)⟩⟩

/-! ### copy(n, m): all of a list over a row that was made as long -/
theorem run_copy_whole {P : Program} (w : World) (dT sT ty elem : TypeId) (size B g n cap sCap : Nat) (ad : Option Addr) (xs cs : List Value)
    (hu : P.underlying dT = some (.slice elem)) (hs : (P.info? elem).map (·.size) = some size) (hown : w.ownsRow B elem size (.slice (some ⟨g, 0, none⟩) n cap) n xs)
    (hl : cs.length = n * size) (hsrc : ∀ j v, cs[j]? = some v → ∃ a, ad = some a ∧ w.cell? (a.add j) = some v) (h1 : ∀ v ∈ cs, v.oneCell' = true) :
    ∃ w', (Builtin.copy_ #[dT, sT] ty #[.slice (some ⟨g, 0, none⟩) n cap, .slice ad n sCap]).run P w = .ok (goInt n) w' ∧ w'.ownsRow B elem size (.slice (some ⟨g, 0, none⟩) n cap) n cs ∧ w.grownBy w' (some g) := by
  rcases hown.2 with ⟨h, _⟩ | ⟨g', cap', cur, h, hbg, hg, hnc, hcm, hcs, htake⟩
  · simp at h
  · simp only [Value.slice.injEq, Option.some.injEq, Addr.mk.injEq, and_true, true_and] at h
    obtain ⟨rfl, rfl⟩ := h
    have hle : n * size ≤ cap * size := Nat.mul_le_mul_right _ hnc
    cases hq : P.info? elem with
    | none => simp [hq] at hs
    | some i =>
      have hi : i.size = size := by simpa [hq] using hs
      cases ad with
      | none =>
        have h0 : cs = [] := by
          cases cs with
          | nil => rfl
          | cons v r => obtain ⟨a, e, _⟩ := hsrc 0 v rfl; cases e
        subst h0
        refine ⟨w, by simp [Builtin.copy_, run_underlying hu, Builtin.lenOf, Builtin.firstCells, sizeOf, typeInfo, hq, storeCells], ?_, ⟨rfl, rfl, rfl, Nat.le_refl _, fun _ _ _ => rfl⟩⟩
        have hx := hown.1
        have e0 : xs = [] := List.eq_nil_of_length_eq_zero (by rw [hx, ← hl]; rfl)
        rw [e0] at hown; exact hown
      | some a =>
        have hsrc' : ∀ j v, cs[j]? = some v → w.cell? (a.add j) = some v := fun j v hj => by
          obtain ⟨a', e, hc⟩ := hsrc j v hj
          cases e; exact hc
        have hld := run_loadCells_list (P := P) w a cs hsrc'
        have hst := run_storeCells_at P g 0 elem cs 0 cur w hg (by rw [hl, hcs]; omega) h1
        refine ⟨w.setRow g (cs ++ cur.toList.drop (n * size)).toArray, ?_, ⟨hl, .inr ⟨g, cap, _, rfl, hbg, setRow_heap w g cur _ elem _ hg, hnc, hcm, ?_, ?_⟩⟩, ⟨rfl, rfl, rfl, by simp, fun k _ hk => setRow_other w g k _ (fun e => hk (by simp [e]))⟩⟩
        · rw [← hl]
          simp [Builtin.copy_, run_underlying hu, Builtin.lenOf, Builtin.firstCells, sizeOf, typeInfo, hq, hi, ← hl, hld, hst]
        · simp only [List.size_toArray, List.length_append, List.length_drop, Array.length_toList]
          omega
        · rw [← hl]; exact List.take_left
theorem wpList_copy_whole {P : Program} {w : World} {ops : Array Oper} {rest : List Oper} {o : Oper} {a : Act} {Q : Exit → Act → World → Prop} (hgd : o.guard = none) (d s : Operand) (dT sT : TypeId)
    (ho : o.op = .call { callee := .builtin .copy, args := #[d, s], argTypes := #[dT, sT] }) (elem : TypeId) (size B g n cap sCap : Nat) (ad : Option Addr) (xs cs : List Value) (hu : P.underlying dT = some (.slice elem)) (hs : (P.info? elem).map (·.size) = some size)
    (hd : a.eval d = .slice (some ⟨g, 0, none⟩) n cap) (hsv : a.eval s = .slice ad n sCap) (hown : w.ownsRow B elem size (.slice (some ⟨g, 0, none⟩) n cap) n xs)
    (hl : cs.length = n * size) (hsrc : ∀ j v, cs[j]? = some v → ∃ a, ad = some a ∧ w.cell? (a.add j) = some v) (h1 : ∀ v ∈ cs, v.oneCell' = true)
    (h : ∀ w', w'.ownsRow B elem size (.slice (some ⟨g, 0, none⟩) n cap) n cs → w.grownBy w' (some g) → wpList P ops Q rest (a.put o.dst (goInt n)) w') : wpList P ops Q (o :: rest) a w := by
  refine wpList_plain hgd fun K hK => ?_
  obtain ⟨w', hrun, r1, r2⟩ := run_copy_whole (P := P) w dT sT o.type elem size B g n cap sCap ad xs cs hu hs hown hl hsrc h1
  unfold Oper.wp
  simp [execOp, ho, resolve, invoke, builtin, hd, hsv, hrun, Result.andThen]
  exact hK _ _ (h w' r1 r2)
end Go.Proofs.Ythbleofighjjgaa.B
