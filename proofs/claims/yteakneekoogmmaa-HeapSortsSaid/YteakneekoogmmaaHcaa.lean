/-
  The plain model of layer 2: graphs as they lie in memory, and what Check answers of them, as functions on lists; no program. Ties as they lie in memory; no program. Helpers that name no function of the program: cells, blocks, owned rows, searches, lists that are held against each other, copy of a list of structs. Package heap, plainly: items, which of two comes first, a list sifted. Package heap in memory: a map of ints to places; a heap.
-/
import Derived.Below
import Derived.Lib.Hide
import Derived.Lib.Strings
import Derived.WalkKit
import Derived.WalkSpells
import Derived.WalkLawsBesides
import Derived.OwnWalk
import Derived.Laws.OwnMore
import Derived.Laws.CopyRow
import Derived.Shelf.Abstract
import Derived.Shelf.RegionOpen
import Derived.BigQuiet
import Derived.Deep.QuietTactic
import Derived.RegionTactic
import Derived.Outline
import Derived.LoopIn
import Derived.Test.YteakneekoogmmaaChecked
import Derived.Maps.OwnIn
import Derived.Maps.OwnSet
import Derived.Maps.Views
import Derived.DeepKeys4
import Derived.MapViews
namespace Go.Proofs.Yteakneekoogmmaa
open Go.RowKit
/-- A group: its name, its parent. -/
structure Gp where
  name : ByteArray
  parent : ByteArray
/-- An event. -/
structure Ev where
  name : ByteArray
  group : ByteArray
  role : ByteArray
  inn : Bool
  done : Bool
  due : Int
/-- A relation. -/
structure Rl where
  kind : Int
  src : ByteArray
  dst : ByteArray
  time : Int
/-- A user; ra, rc: where its roles lie, and how many there is room for. -/
structure Us where
  name : ByteArray
  ra : Option Addr
  rc : Nat
  roles : List ByteArray
  sub : ByteArray
/-- A graph; where its four lists lie, and how much room they have. -/
structure Gr where
  gs : List Gp
  es : List Ev
  rs : List Rl
  us : List Us
  ga : Option Addr
  gc : Nat
  ea : Option Addr
  ec : Nat
  ra : Option Addr
  rc : Nat
  ua : Option Addr
  uc : Nat
instance : Inhabited Gp := ⟨⟨ByteArray.empty, ByteArray.empty⟩⟩
instance : Inhabited Ev := ⟨⟨ByteArray.empty, ByteArray.empty, ByteArray.empty, false, false, 0⟩⟩
instance : Inhabited Rl := ⟨⟨0, ByteArray.empty, ByteArray.empty, 0⟩⟩
instance : Inhabited Us := ⟨⟨ByteArray.empty, none, 0, [], ByteArray.empty⟩⟩
def gpC (p : Gp) : List Value := [.string p.name, .string p.parent]
def evC (v : Ev) : List Value := [.string v.name, .string v.group, .string v.role, .bool v.inn, .bool v.done, .int .i64 v.due]
def rlC (r : Rl) : List Value := [.int .i64 r.kind, .string r.src, .string r.dst, .int .i64 r.time]
def usC (u : Us) : List Value := [.string u.name, .slice u.ra u.roles.length u.rc, .string u.sub]
/-- Cells that lie in memory from an address on. -/
def Row (w : World) (A : Option Addr) (xs : List Value) : Prop :=
  xs ≠ [] → ∃ b off, A = some ⟨b, off, none⟩ ∧ b < w.heap.size ∧ ∀ j u, xs[j]? = some u → w.cell? ⟨b, off + j, none⟩ = some u
theorem Row.below {w w' : World} {A : Option Addr} {xs : List Value} (h : Row w A xs) {B : Nat} (hB : w.heap.size ≤ B) (hb : Below B w w') : Row w' A xs := by
  intro hn
  obtain ⟨b, off, h1, h2, h3⟩ := h hn
  exact ⟨b, off, h1, by have := hb.size; omega, fun j u hu => (hb.cell (p := ⟨b, off + j, none⟩) (by show b < B; omega)).trans (h3 j u hu)⟩
theorem Row.of_own {w : World} {B e z : Nat} {A : Option Addr} {n m c : Nat} {xs : List Value} (h : w.ownsRow B e z (.slice A m c) n xs) : Row w A xs := by
  rcases h.2 with ⟨hv, h0⟩ | ⟨g, cap, cur, hv, _, hg, _⟩
  · intro hn
    exfalso; apply hn
    have := h.1
    rw [h0, Nat.zero_mul] at this
    exact List.eq_nil_of_length_eq_zero this
  · injection hv with h1 h2 h3
    subst h1
    refine fun _ => ⟨g, 0, rfl, (Array.getElem?_eq_some_iff.1 hg).1, fun j u hu => ?_⟩
    have := h.cells (g := g) rfl j u hu
    rw [Addr.add_lit] at this
    exact this
/-- A graph that lies in memory. -/
structure InG (w : World) (g : Gr) : Prop where
  gs : Row w g.ga (g.gs.flatMap gpC)
  es : Row w g.ea (g.es.flatMap evC)
  rs : Row w g.ra (g.rs.flatMap rlC)
  us : Row w g.ua (g.us.flatMap usC)
  roles : ∀ u ∈ g.us, Row w u.ra (u.roles.map Value.string)
theorem InG.below {w w' : World} {g : Gr} (h : InG w g) {B : Nat} (hB : w.heap.size ≤ B) (hb : Below B w w') : InG w' g :=
  ⟨h.gs.below hB hb, h.es.below hB hb, h.rs.below hB hb, h.us.below hB hb, fun u hu => (h.roles u hu).below hB hb⟩
theorem flat_len {α : Type} (enc : α → List Value) (k : Nat) (hk : ∀ x, (enc x).length = k) : ∀ l : List α, (l.flatMap enc).length = l.length * k
  | [] => by simp
  | x :: r => by rw [List.flatMap_cons, List.length_append, hk, flat_len enc k hk r, List.length_cons, Nat.succ_mul]; omega
theorem flat_at {α : Type} [Inhabited α] (enc : α → List Value) (k : Nat) (hk : ∀ x, (enc x).length = k) : ∀ (l : List α) (i : Nat) (_ : i < l.length) (j : Nat) (_ : j < k), (l.flatMap enc)[i * k + j]? = (enc l[i]!)[j]?
  | [], i, h, _, _ => by simp at h
  | x :: r, 0, _, j, hj => by
    rw [List.flatMap_cons, Nat.zero_mul, Nat.zero_add, List.getElem?_append_left (by rw [hk]; exact hj)]; rfl
  | x :: r, i + 1, h, j, hj => by
    have e : (i + 1) * k = i * k + k := Nat.succ_mul i k
    rw [List.flatMap_cons, List.getElem?_append_right (by rw [hk]; omega), hk, show (i + 1) * k + j - k = i * k + j from by omega, flat_at enc k hk r i (by simpa using h) j hj]
    rfl
/-- The cells of one element of a list. -/
theorem Row.at_ {α : Type} [Inhabited α] {enc : α → List Value} {k : Nat} {w : World} {A : Option Addr} {l : List α} (h : Row w A (l.flatMap enc)) (hk : ∀ x, (enc x).length = k) (k0 : 0 < k) {i : Nat} (hi : i < l.length) :
    ∃ b off, A = some ⟨b, off, none⟩ ∧ b < w.heap.size ∧ ∀ j u, (enc l[i]!)[j]? = some u → w.cell? ⟨b, off + i * k + j, none⟩ = some u := by
  have hl := flat_len enc k hk l
  have hp : 0 < l.length * k := Nat.mul_pos (by omega) k0
  obtain ⟨b, off, h1, h2, h3⟩ := h (fun e => by rw [e] at hl; simp at hl; omega)
  refine ⟨b, off, h1, h2, fun j u hu => ?_⟩
  have hj : j < k := by rw [← hk l[i]!]; exact (List.getElem?_eq_some_iff.1 hu).1
  rw [Nat.add_assoc]
  exact h3 _ _ ((flat_at enc k hk l i hi j hj).trans hu)
def hasB {α : Type} [BEq α] (l : List α) (k : α) : Bool := l.contains k
end Go.Proofs.Yteakneekoogmmaa

namespace Go.Proofs.Yteakneekoogmmaa
open Go.RowKit
/-- A tie. -/
structure Ti where
  kind : Int
  fr : Int
  to : Int
  time : Int
deriving DecidableEq
instance : Inhabited Ti := ⟨⟨0, 0, 0, 0⟩⟩
end Go.Proofs.Yteakneekoogmmaa

namespace Go.Proofs.Yteakneekoogmmaa.B
open Go.RowKit Go.Shelf
theorem ret_bool {a b : Bool} (h : a = b) : Ending.returned (.bool a) = .returned (.bool b) := by rw [h]
theorem mem_at {α : Type} [Inhabited α] {l : List α} {i : Nat} (h : i < l.length) : l[i]! ∈ l := by rw [getElem!_pos l i h]; exact List.getElem_mem h
theorem heap_new (w : World) (o : Obj) : (w.alloc o).heap[w.heap.size]? = some o := heap_alloc_new w o
theorem cell_blk {w : World} {b i : Nat} {cs : Array Value} {t : TypeId} {v : Value} (h : w.heap[b]? = some (.cells cs t (0, 0))) (hi : cs[i]? = some v) : w.cell? ⟨b, i, none⟩ = some v := by
  unfold World.cell?; simp only; rw [h]; exact hi
theorem frozen_blk {w : World} {b i : Nat} {cs : Array Value} {t : TypeId} (h : w.heap[b]? = some (.cells cs t (0, 0))) : w.frozen? ⟨b, i, none⟩ = false := by
  unfold World.frozen?; simp only; rw [h]; simp
theorem blk_set {w : World} {b i : Nat} {cs : Array Value} {t : TypeId} {v : Value} (h : w.heap[b]? = some (.cells cs t (0, 0))) : (w.setCell ⟨b, i, none⟩ v).heap[b]? = some (.cells (cs.setIfInBounds i v) t (0, 0)) := by
  simp [World.setCell, Array.getElem?_modify, h]
theorem blk_other {w : World} {b c i : Nat} {v : Value} (h : c ≠ b) : (w.setCell ⟨b, i, none⟩ v).heap[c]? = w.heap[c]? := Below.heap_setCell _ _ _ _ h
theorem blk_lt {w : World} {b : Nat} {o : Obj} (h : w.heap[b]? = some o) : b < w.heap.size := (Array.getElem?_eq_some_iff.1 h).1
theorem below_draws {B : Nat} {a w : World} (h : Below B a w) (n : Nat) : Below B a (w.drewN n) := ⟨h.os, h.tape, h.output, h.size, h.block⟩
theorem own_slice {w : World} {B e z n : Nat} {v : Value} {xs : List Value} (h : w.ownsRow B e z v n xs) : ∃ ao cap, v = .slice ao n cap := by
  rcases h.2 with ⟨hv, h0⟩ | ⟨g, cap, cur, hv, _⟩
  · exact ⟨none, 0, by rw [hv, h0]⟩
  · exact ⟨_, _, hv⟩
theorem own_below {w w1 : World} {B e z n : Nat} {v : Value} {xs : List Value} (h : w.ownsRow B e z v n xs) (hb : Below w.heap.size w w1) : w1.ownsRow B e z v n xs :=
  h.kept (row := none) ⟨hb.os, hb.tape, hb.output, hb.size, fun k hk _ => hb.block k hk⟩ (by cases hv : v.ownBlock <;> simp)
theorem own_base {w : World} {B B' e z n : Nat} {v : Value} {xs : List Value} (h : w.ownsRow B e z v n xs) (hB : B' ≤ B) : w.ownsRow B' e z v n xs := by
  refine ⟨h.1, ?_⟩
  rcases h.2 with h | ⟨g, cap, cur, h1, h2, h3⟩
  · exact .inl h
  · exact .inr ⟨g, cap, cur, h1, Nat.le_trans hB h2, h3⟩
theorem own_far {w : World} {B e z n b : Nat} {v : Value} {xs : List Value} {cs : Array Value} {T : TypeId} (hown : w.ownsRow B e z v n xs) (h : w.heap[b]? = some (.cells cs T (0, 0))) (he : e ≠ T) : v.ownBlock ≠ some b := by
  rcases hown.2 with ⟨rfl, _⟩ | ⟨g, cap, cur, rfl, _, hg, _⟩
  · intro hh; cases hh
  · intro hh
    simp only [Value.ownBlock, Option.some.injEq] at hh
    subst hh
    rw [h] at hg
    simp only [Option.some.injEq, Obj.cells.injEq] at hg
    exact he hg.2.1.symm
theorem own_cap {w : World} {B e z n c : Nat} {A : Option Addr} {xs : List Value} (h : w.ownsRow B e z (.slice A n c) n xs) : n ≤ c ∧ (A = none → c = 0) := by
  rcases h.2 with ⟨hv, h0⟩ | ⟨g, cap, cur, hv, _, _, hn, _⟩
  · injection hv with _ h2 h3; exact ⟨by omega, fun _ => h3⟩
  · injection hv with h1 _ h3; exact ⟨by omega, fun e => by rw [e] at h1; cases h1⟩
theorem flat_set {α : Type} (enc : α → List Value) (k : Nat) (hk : ∀ x, (enc x).length = k) : ∀ (l : List α) (i : Nat) (_ : i < l.length) (j : Nat) (_ : j < k) (v : Value) (y : α) (_ : ∀ x, l[i]? = some x → enc y = (enc x).set j v), (l.flatMap enc).set (i * k + j) v = (l.set i y).flatMap enc
  | [], i, h, _, _, _, _, _ => by simp at h
  | x :: r, 0, _, j, hj, v, y, hy => by
    rw [List.flatMap_cons, List.set_cons_zero, List.flatMap_cons, Nat.zero_mul, Nat.zero_add, List.set_append_left _ _ (by rw [hk]; exact hj), hy x rfl]
  | x :: r, i + 1, h, j, hj, v, y, hy => by
    have e : (i + 1) * k = i * k + k := Nat.succ_mul i k
    rw [List.flatMap_cons, List.set_cons_succ, List.flatMap_cons, List.set_append_right _ _ (by rw [hk]; omega), hk, show (i + 1) * k + j - k = i * k + j from by omega, flat_set enc k hk r i (by simpa using h) j hj v y (fun z hz => hy z (by simpa using hz))]
theorem get_some {α : Type} [Inhabited α] {l : List α} {k : Nat} {x : α} (h : l[k]? = some x) : x = l[k]! := by
  obtain ⟨hk, rfl⟩ := List.getElem?_eq_some_iff.1 h
  rw [getElem!_pos l k hk]
theorem set_at {α : Type} [Inhabited α] {l : List α} {k j : Nat} {y : α} (h : k ≠ j) : (l.set k y)[j]! = l[j]! := by
  by_cases hjl : j < l.length
  · rw [getElem!_pos _ j (by simpa using hjl), getElem!_pos l j hjl, List.getElem_set_ne h]
  · rw [getElem!_neg _ j (by simpa using hjl), getElem!_neg l j hjl]
theorem set_here {α : Type} [Inhabited α] {l : List α} {k : Nat} {y : α} (h : k < l.length) : (l.set k y)[k]! = y := by
  rw [getElem!_pos _ k (by simpa using h), List.getElem_set_self]
theorem take_next {α : Type} [Inhabited α] {l : List α} {k : Nat} (hk : k < l.length) : l.take (k + 1) = l.take k ++ [l[k]!] := by
  rw [List.take_succ_eq_append_getElem hk, ← getElem!_pos l k hk]
end Go.Proofs.Yteakneekoogmmaa.B

namespace Go.Proofs.Yteakneekoogmmaa.HP
open Go.RowKit Go.Shelf Go.Proofs.Yteakneekoogmmaa.B
/-- An item. -/
structure It where
  id : Int
  base : Int
  since : Int
deriving DecidableEq
instance : Inhabited It := ⟨⟨0, 0, 0⟩⟩
def itC (x : It) : List Value := [.int .i64 x.id, .int .i64 x.base, .int .i64 x.since]
/-- Its weight at the moment 0. -/
def wt (s : Int) (x : It) : Int := x.base * s - x.since
/-- Does one come ahead of another? -/
def ahB (s : Int) (x y : It) : Bool := decide (wt s y < wt s x ∨ (wt s x = wt s y ∧ x.id < y.id))
def le (s : Int) (x y : It) : Prop := ahB s y x = false
theorem le_iff {s : Int} {x y : It} : le s x y ↔ (wt s y < wt s x ∨ (wt s x = wt s y ∧ x.id ≤ y.id)) := by
  unfold le ahB
  rw [decide_eq_false_iff_not]
  omega
theorem ah_iff {s : Int} {x y : It} : ahB s x y = true ↔ (wt s y < wt s x ∨ (wt s x = wt s y ∧ x.id < y.id)) := by
  unfold ahB
  rw [decide_eq_true_eq]
theorem le_refl (s : Int) (x : It) : le s x x := le_iff.2 (.inr ⟨rfl, Int.le_refl _⟩)
theorem le_trans {s : Int} {x y z : It} (h1 : le s x y) (h2 : le s y z) : le s x z := by
  rw [le_iff] at h1 h2 ⊢
  omega
theorem le_of_ah {s : Int} {x y : It} (h : ahB s x y = true) : le s x y := by
  rw [ah_iff] at h
  rw [le_iff]
  omega
theorem le_anti {s : Int} {x y : It} (h1 : le s x y) (h2 : le s y x) : x.id = y.id := by
  rw [le_iff] at h1 h2
  omega
/-- Two exchanged. -/
def sw (L : List It) (i j : Nat) : List It := (L.set i L[j]!).set j L[i]!
theorem sw_len (L : List It) (i j : Nat) : (sw L i j).length = L.length := by unfold sw; rw [List.length_set, List.length_set]
theorem sw_at {L : List It} {i j : Nat} (hi : i < L.length) (hj : j < L.length) (k : Nat) : (sw L i j)[k]! = if k = j then L[i]! else if k = i then L[j]! else L[k]! := by
  unfold sw
  by_cases h1 : k = j
  · subst h1; rw [if_pos rfl, set_here (by rw [List.length_set]; exact hj)]
  · rw [if_neg h1, set_at (Ne.symm h1)]
    by_cases h2 : k = i
    · subst h2; rw [if_pos rfl, set_here hi]
    · rw [if_neg h2, set_at (Ne.symm h2)]
theorem sw_perm {L : List It} {i j : Nat} (hi : i < L.length) (hj : j < L.length) : (sw L i j).Perm L := by
  unfold sw
  rw [getElem!_pos L i hi, getElem!_pos L j hj]
  exact List.set_set_perm hi hj
/-- In order, but for what is at one place. -/
def EX (s : Int) (L : List It) (a : Nat) : Prop :=
  (∀ j, 0 < j → j < L.length → j ≠ a → (j - 1) / 2 ≠ a → le s L[(j - 1) / 2]! L[j]!) ∧ (0 < a → ∀ j, 0 < j → j < L.length → (j - 1) / 2 = a → le s L[(a - 1) / 2]! L[j]!)
/-- In order, but for those under a place. -/
def DN (s : Int) (L : List It) (a : Nat) : Prop :=
  (∀ j, 0 < j → j < L.length → (j - 1) / 2 ≠ a → le s L[(j - 1) / 2]! L[j]!) ∧ (0 < a → ∀ j, 0 < j → j < L.length → (j - 1) / 2 = a → le s L[(a - 1) / 2]! L[j]!)
/-- In order. -/
def HO (s : Int) (L : List It) : Prop := ∀ j, 0 < j → j < L.length → le s L[(j - 1) / 2]! L[j]!
theorem up_step {s : Int} {L : List It} {a p : Nat} (h : EX s L a) (ha : 0 < a) (hl : a < L.length) (hp : p = (a - 1) / 2) : EX s (sw L a p) p := by
  have hpl : p < L.length := by omega
  have hpa : p < a := by omega
  obtain ⟨h1, h2⟩ := h
  constructor
  · intro j j0 jl jp jq
    rw [sw_len] at jl
    rw [sw_at hl hpl, sw_at hl hpl, if_neg jp, if_neg jq]
    have hja : j ≠ a := fun e => jq (by rw [e, hp])
    rw [if_neg hja]
    by_cases e : (j - 1) / 2 = a
    · rw [if_pos e]
      have := h2 ha j j0 jl e
      rw [← hp] at this
      exact this
    · rw [if_neg e]
      exact h1 j j0 jl hja e
  · intro p0 j j0 jl jp
    rw [sw_len] at jl
    have hq := h1 p p0 hpl (by omega) (by omega)
    rw [sw_at hl hpl, sw_at hl hpl, if_neg (by omega : ¬ (p - 1) / 2 = p), if_neg (by omega : ¬ (p - 1) / 2 = a), if_neg (by omega : ¬ j = p)]
    by_cases e : j = a
    · rw [if_pos e]; exact hq
    · rw [if_neg e]
      have h3 := h1 j j0 jl e (by omega)
      rw [jp] at h3
      exact le_trans hq h3
theorem up_stop {s : Int} {L : List It} {a p : Nat} (h : EX s L a) (hp : p = (a - 1) / 2) (hh : a = 0 ∨ ahB s L[a]! L[p]! = false) : DN s L a := by
  refine ⟨fun j j0 jl jq => ?_, h.2⟩
  by_cases e : j = a
  · subst e
    rcases hh with hh | hh
    · omega
    · rw [← hp]; exact hh
  · exact h.1 j j0 jl e jq
theorem down_step {s : Int} {L : List It} {a f : Nat} (h : DN s L a) (hf0 : 0 < f) (hfl : f < L.length) (hfa : (f - 1) / 2 = a) (hah : ahB s L[f]! L[a]! = true) (hb : ∀ j, 0 < j → j < L.length → (j - 1) / 2 = a → le s L[f]! L[j]!) : DN s (sw L a f) f := by
  have hal : a < L.length := by omega
  obtain ⟨h1, h2⟩ := h
  constructor
  · intro j j0 jl jq
    rw [sw_len] at jl
    rw [sw_at hal hfl, sw_at hal hfl, if_neg jq]
    by_cases e : (j - 1) / 2 = a
    · rw [if_pos e]
      by_cases e2 : j = f
      · rw [if_pos e2]; exact le_of_ah hah
      · rw [if_neg e2, if_neg (by omega : ¬ j = a)]; exact hb j j0 jl e
    · rw [if_neg e, if_neg (fun e2 : j = f => e (by rw [e2]; exact hfa))]
      by_cases e3 : j = a
      · rw [if_pos e3]
        subst e3
        exact h2 j0 f hf0 hfl hfa
      · rw [if_neg e3]; exact h1 j j0 jl e
  · intro _ j j0 jl jp
    rw [sw_len] at jl
    rw [hfa, sw_at hal hfl, sw_at hal hfl, if_neg (by omega : ¬ a = f), if_pos rfl, if_neg (by omega : ¬ j = f), if_neg (by omega : ¬ j = a)]
    have := h1 j j0 jl (by omega)
    rw [jp] at this
    exact this
theorem down_stop {s : Int} {L : List It} {a : Nat} (h : DN s L a) (hb : ∀ j, 0 < j → j < L.length → (j - 1) / 2 = a → le s L[a]! L[j]!) : HO s L := by
  intro j j0 jl
  by_cases e : (j - 1) / 2 = a
  · have := hb j j0 jl e
    rw [e]; exact this
  · exact h.1 j j0 jl e
/-- What is put last is sifted. -/
theorem put_ex {s : Int} {L : List It} (h : HO s L) (x : It) : EX s (L ++ [x]) L.length := by
  have hat : ∀ k, k < L.length → (L ++ [x])[k]! = L[k]! := fun k hk => by rw [getElem!_pos (L ++ [x]) k (by simp; omega), getElem!_pos L k hk, List.getElem_append_left hk]
  constructor
  · intro j j0 jl jn _
    rw [List.length_append, List.length_singleton] at jl
    rw [hat j (by omega), hat _ (by omega)]
    exact h j j0 (by omega)
  · intro _ j j0 jl jp
    rw [List.length_append, List.length_singleton] at jl
    omega
/-- What comes to a place whose item is taken is sifted. -/
theorem take_ex {s : Int} {L : List It} {a n : Nat} (h : HO s L) (hn : L.length = n + 1) (ha : a < n) : EX s ((sw L a n).take n) a := by
  have hat : ∀ k, k < n → ((sw L a n).take n)[k]! = if k = a then L[n]! else L[k]! := fun k hk => by
    have hl : k < ((sw L a n).take n).length := by rw [List.length_take, sw_len]; omega
    rw [getElem!_pos _ k hl, List.getElem_take, ← getElem!_pos (sw L a n) k (by rw [sw_len]; omega), sw_at (by omega) (by omega), if_neg (by omega)]
  have hlen : ((sw L a n).take n).length = n := by rw [List.length_take, sw_len]; omega
  constructor
  · intro j j0 jl ja jq
    rw [hlen] at jl
    rw [hat j jl, hat _ (by omega), if_neg ja, if_neg jq]
    exact h j j0 (by omega)
  · intro a0 j j0 jl jp
    rw [hlen] at jl
    rw [hat j jl, hat _ (by omega), if_neg (by omega), if_neg (by omega)]
    have h1 := h a a0 (by omega)
    have h2 := h j j0 (by omega)
    rw [jp] at h2
    exact le_trans h1 h2
theorem take_last {s : Int} {L : List It} {n : Nat} (h : HO s L) (hn : L.length = n + 1) : HO s ((sw L n n).take n) := by
  have hat : ∀ k, k < n → ((sw L n n).take n)[k]! = L[k]! := fun k hk => by
    have hl : k < ((sw L n n).take n).length := by rw [List.length_take, sw_len]; omega
    rw [getElem!_pos _ k hl, List.getElem_take, ← getElem!_pos (sw L n n) k (by rw [sw_len]; omega), sw_at (by omega) (by omega), if_neg (by omega), if_neg (by omega)]
  have hlen : ((sw L n n).take n).length = n := by rw [List.length_take, sw_len]; omega
  intro j j0 jl
  rw [hlen] at jl
  rw [hat j jl, hat _ (by omega)]
  exact h j j0 (by omega)
/-- The first is ahead of all. -/
theorem head_le {s : Int} {L : List It} (h : HO s L) : ∀ (n j : Nat), j ≤ n → j < L.length → le s L[0]! L[j]!
  | 0, j, hj, hl => by have e : j = 0 := (by omega); subst e; exact le_refl _ _
  | n + 1, j, hj, hl => by
    by_cases e : j = 0
    · subst e; exact le_refl _ _
    · exact le_trans (head_le h n ((j - 1) / 2) (by omega) (by omega)) (h j (by omega) hl)
/-- The best of a place and those under it (of those that were seen: k of two). -/
def best (s : Int) (L : List It) (a : Nat) : Nat → Nat
  | 0 => a
  | k + 1 => if 2 * a + 1 + k < L.length ∧ ahB s L[2 * a + 1 + k]! L[best s L a k]! = true then 2 * a + 1 + k else best s L a k
theorem best_lt {s : Int} {L : List It} {a : Nat} (ha : a < L.length) : ∀ k : Nat, best s L a k < L.length
  | 0 => ha
  | k + 1 => by
    unfold best
    split
    · rename_i h; exact h.1
    · exact best_lt ha k
theorem best_le {s : Int} {L : List It} {a : Nat} : ∀ k : Nat, le s L[best s L a k]! L[a]! ∧ ∀ i, i < k → 2 * a + 1 + i < L.length → le s L[best s L a k]! L[2 * a + 1 + i]!
  | 0 => ⟨le_refl _ _, fun i hi => by omega⟩
  | k + 1 => by
    obtain ⟨h1, h2⟩ := best_le (s := s) (L := L) (a := a) k
    unfold best
    split
    · rename_i h
      have h3 := le_of_ah h.2
      refine ⟨le_trans h3 h1, fun i hi hl => ?_⟩
      by_cases e : i = k
      · subst e; exact le_refl _ _
      · exact le_trans h3 (h2 i (by omega) hl)
    · rename_i h
      refine ⟨h1, fun i hi hl => ?_⟩
      by_cases e : i = k
      · subst e
        unfold le
        cases hb : ahB s L[2 * a + 1 + i]! L[best s L a i]! with
        | false => rfl
        | true => exact absurd ⟨hl, hb⟩ h
      · exact h2 i (by omega) hl
theorem best_is {s : Int} {L : List It} {a : Nat} : ∀ k : Nat, best s L a k = a ∨ (∃ i, i < k ∧ best s L a k = 2 * a + 1 + i ∧ ahB s L[best s L a k]! L[a]! = true)
  | 0 => .inl rfl
  | k + 1 => by
    unfold best
    split
    · rename_i h
      right
      refine ⟨k, by omega, rfl, ?_⟩
      have h1 := (best_le (s := s) (L := L) (a := a) k).1
      have h2 := h.2
      rw [le_iff] at h1
      rw [ah_iff] at h2 ⊢
      omega
    · rcases best_is (s := s) (L := L) (a := a) k with h | ⟨i, h1, h2, h3⟩
      · exact .inl h
      · exact .inr ⟨i, by omega, h2, h3⟩
theorem best_stop {s : Int} {L : List It} {a : Nat} (h : DN s L a) (he : best s L a 2 = a) : HO s L :=
  down_stop h (fun j j0 jl jp => by
    have h1 := (best_le (s := s) (L := L) (a := a) 2).2
    rw [he] at h1
    have : j = 2 * a + 1 + 0 ∨ j = 2 * a + 1 + 1 := by omega
    rcases this with e | e
    · rw [e]; exact h1 0 (by omega) (by omega)
    · rw [e]; exact h1 1 (by omega) (by omega))
theorem best_step {s : Int} {L : List It} {a : Nat} (h : DN s L a) (ha : a < L.length) (he : best s L a 2 ≠ a) : DN s (sw L a (best s L a 2)) (best s L a 2) ∧ a < best s L a 2 ∧ best s L a 2 < L.length := by
  have hl := best_lt (s := s) ha 2
  rcases best_is (s := s) (L := L) (a := a) 2 with h1 | ⟨i, h1, h2, h3⟩
  · exact absurd h1 he
  · have hb := (best_le (s := s) (L := L) (a := a) 2).2
    refine ⟨down_step h (by omega) hl (by omega) h3 (fun j j0 jl jp => ?_), by omega, hl⟩
    have : j = 2 * a + 1 + 0 ∨ j = 2 * a + 1 + 1 := by omega
    rcases this with e | e
    · rw [e]; exact hb 0 (by omega) (by omega)
    · rw [e]; exact hb 1 (by omega) (by omega)
end Go.Proofs.Yteakneekoogmmaa.HP

namespace Go.Proofs.Yteakneekoogmmaa.HP
open Go.RowKit Go.Shelf Go.Proofs.Yteakneekoogmmaa.B
def litZ (i : Int) : Lit := .int .i64 i
theorem lawZ : Maps.Keyed Try.prog 3 := Maps.int_keyed Try.underlying3
theorem keyZ {i : Int} (h : (Lit.int .i64 i).wf = true) : keyOf Try.prog 3 (.int .i64 i) = some (litZ i) := Maps.keyOf_int_mk Try.underlying3 h
theorem litZ_inj {a b : Int} (h : litZ a = litZ b) : a = b := by simpa only [litZ, Lit.int.injEq, true_and] using h
theorem litZ_key {i : Int} (h : (Lit.int .i64 i).wf = true) : WideAt.IsKeyLit (litZ i) := lawZ.key (keyZ h)
section
variable {H : Type} {P : Program} {k : TypeId} {R : Value → Option (DataW H × List MemPlace)} {w : World} {b n : Nat} {D : DataW H}
theorem own_tight (h : w.ownsMap P k R b n D) : w.ownsMap P k R b (Maps.size D) D := by
  obtain ⟨es, clock, hb, F, hs, rfl⟩ := h
  refine ⟨es, clock, hb, F, ?_, rfl⟩
  simp [Maps.size, length_sorted]
end
/-- Block b is a map of ints to places. -/
def MI (w : World) (b : Nat) (f : Int → Option Nat) (m : Nat) : Prop :=
  ∃ D : DataW Unit, w.ownsMap Try.prog 3 (plainElem Try.prog 3) b m D ∧ Maps.size D = m ∧ (∀ i : Int, Maps.has D (litZ i) = (f i).isSome) ∧ ∀ (i : Int) (p : Nat), f i = some p → D.atKey (litZ i) (.lit (.int .i64 0)) = .lit (.int .i64 (p : Int))
theorem MI.made (w : World) : MI (w.alloc (.map #[] 0)) w.heap.size (fun _ => none) 0 := ⟨.map [], World.ownsMap_made w _ _ _, rfl, fun _ => rfl, fun _ _ h => by cases h⟩
theorem MI.lt {w : World} {b m : Nat} {f : Int → Option Nat} (h : MI w b f m) : b < w.heap.size := by obtain ⟨D, h, _⟩ := h; exact h.lt
theorem MI.block {w w' : World} {b m : Nat} {f : Int → Option Nat} (h : MI w b f m) (hb : w'.heap[b]? = w.heap[b]?) : MI w' b f m := by
  obtain ⟨D, ⟨es, clock, h1, h2⟩, h3⟩ := h
  exact ⟨D, ⟨es, clock, hb.trans h1, h2⟩, h3⟩
theorem MI.look {w : World} {b m : Nat} {f : Int → Option Nat} (h : MI w b f m) {i : Int} (hi : (Lit.int .i64 i).wf = true) :
    ∃ q : Int, (Instr.lookup 62 (.map (some b)) (.int .i64 i) true).run Try.prog w = .ok (.tuple #[.int .i64 q, .bool (f i).isSome]) w ∧ ∀ p, f i = some p → q = (p : Int) := by
  obtain ⟨D, h, _, hh, hf⟩ := h
  obtain ⟨v, ps, h1, h2⟩ := h.look_ok lawZ Try.underlying62 (Try.zeroValue3 _) (plainElem_int Try.underlying3 (a := 0) (by decide)) (keyZ hi)
  rw [hh] at h1
  obtain ⟨a, rfl, h3, _⟩ := plainElem_int_inv Try.underlying3 h2
  refine ⟨a, h1, fun p hp => ?_⟩
  rw [hf i p hp] at h3
  simp only [Prod.mk.injEq, DataW.lit.injEq, Lit.int.injEq, true_and] at h3
  exact h3.1.symm
/-- One is put: it comes anew, or goes to another place. -/
def putF (f : Int → Option Nat) (i : Int) (p : Nat) : Int → Option Nat := fun j => if j = i then some p else f j
def delF (f : Int → Option Nat) (i : Int) : Int → Option Nat := fun j => if j = i then none else f j
set_option maxRecDepth 100000 in
theorem MI.put {w : World} {b m : Nat} {f : Int → Option Nat} (h : MI w b f m) {i : Int} (hi : (Lit.int .i64 i).wf = true) {p : Nat} (hp : p ≤ 1000000) (hm : m ≤ 1000000) :
    ∃ w1, (Instr.mapUpdate 62 (.map (some b)) (.int .i64 i) (.int .i64 (p : Int))).run Try.prog w = .ok () w1 ∧ MI w1 b (putF f i p) (if (f i).isSome then m else m + 1) ∧ w.mapTurned w1 b := by
  obtain ⟨D, h, hs, hh, hf⟩ := h
  obtain ⟨w1, h1, h2, h3⟩ := h.store lawZ Try.underlying62 (by unfold maxLen; omega) (keyZ hi) (plainElem_int Try.underlying3 (a := (p : Int)) (WalkArith.wf_i64 (by omega)))
  have hkl := litZ_key hi
  have hsz : Maps.size (D.put (litZ i) (.lit (.int .i64 (p : Int)))) = if (f i).isSome then m else m + 1 := by rw [Maps.size_put (h.tidy lawZ), hh, hs]
  refine ⟨w1, h1, ⟨_, by rw [← hsz]; exact own_tight h2, hsz, fun j => ?_, fun j q hq => ?_⟩, h3⟩
  · unfold putF
    by_cases e : j = i
    · subst e; rw [if_pos rfl, Maps.has_put_same h.isMap hkl]; rfl
    · rw [if_neg e, Maps.has_put_other (fun h => e (litZ_inj h)), hh]
  · unfold putF at hq
    by_cases e : j = i
    · subst e
      rw [if_pos rfl] at hq
      injection hq with hq
      subst hq
      rw [Maps.atKey_put_same h.isMap hkl]
    · rw [if_neg e] at hq
      rw [Maps.atKey_put_other (fun h => e (litZ_inj h))]
      exact hf j q hq
set_option maxRecDepth 100000 in
theorem MI.drop {w : World} {b m : Nat} {f : Int → Option Nat} (h : MI w b f (m + 1)) {i : Int} (hi : (Lit.int .i64 i).wf = true) (hs : (f i).isSome = true) (ty : TypeId) :
    ∃ w1, (Builtin.delete_ #[62, 3] ty #[.map (some b), .int .i64 i]).run Try.prog w = .ok (.tuple #[]) w1 ∧ MI w1 b (delF f i) m ∧ w.mapTurned w1 b := by
  obtain ⟨D, h, hz, hh, hf⟩ := h
  obtain ⟨w1, h1, h2, h3⟩ := h.drop lawZ Try.underlying62 (keyZ hi) ty
  have hsz : Maps.size (D.del (litZ i)) = m := by
    have := Maps.size_del (k := litZ i) (h.tidy lawZ)
    rw [hh, hs, hz] at this
    simpa using this
  refine ⟨w1, h1, ⟨_, by rw [← hsz]; exact own_tight h2, hsz, fun j => ?_, fun j q hq => ?_⟩, h3⟩
  · unfold delF
    by_cases e : j = i
    · subst e; rw [if_pos rfl, Maps.has_del_same]; rfl
    · rw [if_neg e, Maps.has_del_other (fun h => e (litZ_inj h)), hh]
  · unfold delF at hq
    by_cases e : j = i
    · subst e; rw [if_pos rfl] at hq; cases hq
    · rw [if_neg e] at hq
      rw [Maps.atKey_del_other (fun h => e (litZ_inj h))]
      exact hf j q hq
/-- Each is found at its place. -/
structure PlOk (L : List It) (f : Int → Option Nat) : Prop where
  at_ : ∀ p, p < L.length → f L[p]!.id = some p
  no : ∀ i, (∀ p, p < L.length → L[p]!.id ≠ i) → f i = none
theorem PlOk.one {L : List It} {f : Int → Option Nat} (h : PlOk L f) {p q : Nat} (hp : p < L.length) (hq : q < L.length) (e : L[p]!.id = L[q]!.id) : p = q := by
  have h1 := h.at_ p hp
  rw [e, h.at_ q hq] at h1
  injection h1 with h1
  exact h1.symm
theorem PlOk.some {L : List It} {f : Int → Option Nat} (h : PlOk L f) {i : Int} (hs : (f i).isSome = true) : ∃ p, p < L.length ∧ L[p]!.id = i ∧ f i = Option.some p := by
  by_cases hn : ∃ p, p < L.length ∧ L[p]!.id = i
  · obtain ⟨p, h1, h2⟩ := hn
    exact ⟨p, h1, h2, by rw [← h2]; exact h.at_ p h1⟩
  · rw [h.no i (fun p hp e => hn ⟨p, hp, e⟩)] at hs; cases hs
theorem PlOk.sw {L : List It} {f : Int → Option Nat} (h : PlOk L f) {i j : Nat} (hi : i < L.length) (hj : j < L.length) : PlOk (sw L i j) (putF (putF f L[j]!.id i) L[i]!.id j) := by
  constructor
  · intro p hp
    rw [sw_len] at hp
    rw [sw_at hi hj]
    unfold putF
    by_cases e1 : p = j
    · rw [if_pos e1, if_pos rfl, e1]
    · rw [if_neg e1]
      by_cases e2 : p = i
      · rw [if_pos e2]
        by_cases e3 : L[j]!.id = L[i]!.id
        · have := h.one hj hi e3; omega
        · rw [if_neg e3, if_pos rfl, e2]
      · rw [if_neg e2, if_neg (fun e => e2 (h.one hp hi e)), if_neg (fun e => e1 (h.one hp hj e))]
        exact h.at_ p hp
  · intro k hk
    have hall : ∀ p, p < L.length → L[p]!.id ≠ k := fun p hp => by
      by_cases e1 : p = i
      · have := hk j (by rw [sw_len]; exact hj)
        rw [sw_at hi hj, if_pos rfl] at this
        rw [e1]; exact this
      · by_cases e2 : p = j
        · have := hk i (by rw [sw_len]; exact hi)
          rw [sw_at hi hj, if_neg (by omega), if_pos rfl] at this
          rw [e2]; exact this
        · have := hk p (by rw [sw_len]; exact hp)
          rw [sw_at hi hj, if_neg e2, if_neg e1] at this
          exact this
    unfold putF
    rw [if_neg (fun e => hall i hi e.symm), if_neg (fun e => hall j hj e.symm)]
    exact h.no k hall
theorem PlOk.drop {L : List It} {f : Int → Option Nat} (h : PlOk L f) {n : Nat} (hn : L.length = n + 1) : PlOk (L.take n) (delF f L[n]!.id) := by
  have hat : ∀ p, p < n → (L.take n)[p]! = L[p]! := fun p hp => by
    rw [getElem!_pos (L.take n) p (by rw [List.length_take]; omega), List.getElem_take, ← getElem!_pos L p (by omega)]
  have hlen : (L.take n).length = n := by rw [List.length_take]; omega
  constructor
  · intro p hp
    rw [hlen] at hp
    unfold delF
    rw [hat p hp, if_neg (fun e => by have := h.one (by omega) (by omega) e; omega)]
    exact h.at_ p (by omega)
  · intro k hk
    unfold delF
    by_cases e : k = L[n]!.id
    · rw [if_pos e]
    · rw [if_neg e]
      refine h.no k (fun p hp => ?_)
      by_cases e2 : p = n
      · rw [e2]; exact fun e3 => e e3.symm
      · have := hk p (by omega)
        rw [hat p (by omega)] at this
        exact this
theorem PlOk.snoc {L : List It} {f : Int → Option Nat} (h : PlOk L f) {x : It} (hx : f x.id = none) : PlOk (L ++ [x]) (putF f x.id L.length) := by
  have hat : ∀ p, p < L.length → (L ++ [x])[p]! = L[p]! := fun p hp => by rw [getElem!_pos (L ++ [x]) p (by simp; omega), getElem!_pos L p hp, List.getElem_append_left hp]
  have hl : (L ++ [x])[L.length]! = x := by rw [getElem!_pos _ _ (by simp), List.getElem_append_right (Nat.le_refl _)]; simp
  constructor
  · intro p hp
    rw [List.length_append, List.length_singleton] at hp
    unfold putF
    by_cases e : p = L.length
    · rw [e, hl, if_pos rfl]
    · rw [hat p (by omega), if_neg (fun e2 => by
        have h1 := h.at_ p (by omega)
        rw [e2, hx] at h1; cases h1)]
      exact h.at_ p (by omega)
  · intro k hk
    unfold putF
    have h1 := hk L.length (by simp)
    rw [hl] at h1
    rw [if_neg (fun e => h1 e.symm)]
    refine h.no k (fun p hp => ?_)
    have := hk p (by rw [List.length_append]; omega)
    rw [hat p hp] at this
    exact this
/-- An item that may be. -/
structure OkI (x : It) : Prop where
  id : (Lit.int .i64 x.id).wf = true
  base : 0 ≤ x.base ∧ x.base ≤ 9
  since : 0 ≤ x.since ∧ x.since ≤ 1099511627776
structure HA where
  ia : Option Addr
  ic : Nat
  pb : Nat
/-- A heap in memory. -/
structure HpI (w : World) (hb : Nat) (A : HA) (s : Int) (L : List It) : Prop where
  box : w.heap[hb]? = some (.cells #[.int .i64 s, .slice A.ia L.length A.ic, .map (some A.pb)] 64 (0, 0))
  row : ∃ B, w.ownsRow B 32 3 (.slice A.ia L.length A.ic) L.length (L.flatMap itC)
  map : ∃ f, MI w A.pb f L.length ∧ PlOk L f
  ok : ∀ x ∈ L, OkI x
  few : L.length ≤ 1000
  step : 1 ≤ s ∧ s ≤ 1048576
theorem HpI.lt {w : World} {hb : Nat} {A : HA} {s : Int} {L : List It} (h : HpI w hb A s L) : hb < w.heap.size := blk_lt h.box
end Go.Proofs.Yteakneekoogmmaa.HP
