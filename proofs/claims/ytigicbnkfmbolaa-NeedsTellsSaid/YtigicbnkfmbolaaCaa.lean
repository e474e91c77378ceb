/-
  The plain model of layer 2: graphs as they lie in memory, and what Check answers of them, as functions on lists; no program. Ties as they lie in memory; no program. Helpers that name no function of the program: cells, blocks, owned rows, searches, lists that are held against each other, copy of a list of structs.
-/
import Derived.Below
import Derived.Lib.Hide
import Derived.Lib.Strings
import Derived.WalkKit
import Derived.WalkSpells
import Derived.WalkLawsBesides
import Derived.OwnWalk
import Derived.Laws.OwnMore
import Derived.Laws.CopyRow
import Derived.Shelf.Abstract
import Derived.Shelf.RegionOpen
import Derived.BigQuiet
import Derived.Deep.QuietTactic
import Derived.RegionTactic
import Derived.Outline
import Derived.LoopIn
namespace Go.Proofs.Ytigicbnkfmbolaa
open Go.RowKit
/-- A group: its name, its parent. -/
structure Gp where
  name : ByteArray
  parent : ByteArray
/-- An event. -/
structure Ev where
  name : ByteArray
  group : ByteArray
  role : ByteArray
  inn : Bool
  done : Bool
  due : Int
/-- A relation. -/
structure Rl where
  kind : Int
  src : ByteArray
  dst : ByteArray
  time : Int
/-- A user; ra, rc: where its roles lie, and how many there is room for. -/
structure Us where
  name : ByteArray
  ra : Option Addr
  rc : Nat
  roles : List ByteArray
  sub : ByteArray
/-- A graph; where its four lists lie, and how much room they have. -/
structure Gr where
  gs : List Gp
  es : List Ev
  rs : List Rl
  us : List Us
  ga : Option Addr
  gc : Nat
  ea : Option Addr
  ec : Nat
  ra : Option Addr
  rc : Nat
  ua : Option Addr
  uc : Nat
instance : Inhabited Gp := ⟨⟨ByteArray.empty, ByteArray.empty⟩⟩
instance : Inhabited Ev := ⟨⟨ByteArray.empty, ByteArray.empty, ByteArray.empty, false, false, 0⟩⟩
instance : Inhabited Rl := ⟨⟨0, ByteArray.empty, ByteArray.empty, 0⟩⟩
instance : Inhabited Us := ⟨⟨ByteArray.empty, none, 0, [], ByteArray.empty⟩⟩
def gpC (p : Gp) : List Value := [.string p.name, .string p.parent]
def evC (v : Ev) : List Value := [.string v.name, .string v.group, .string v.role, .bool v.inn, .bool v.done, .int .i64 v.due]
def rlC (r : Rl) : List Value := [.int .i64 r.kind, .string r.src, .string r.dst, .int .i64 r.time]
def usC (u : Us) : List Value := [.string u.name, .slice u.ra u.roles.length u.rc, .string u.sub]
/-- Cells that lie in memory from an address on. -/
def Row (w : World) (A : Option Addr) (xs : List Value) : Prop :=
  xs ≠ [] → ∃ b off, A = some ⟨b, off, none⟩ ∧ b < w.heap.size ∧ ∀ j u, xs[j]? = some u → w.cell? ⟨b, off + j, none⟩ = some u
theorem Row.below {w w' : World} {A : Option Addr} {xs : List Value} (h : Row w A xs) {B : Nat} (hB : w.heap.size ≤ B) (hb : Below B w w') : Row w' A xs := by
  intro hn
  obtain ⟨b, off, h1, h2, h3⟩ := h hn
  exact ⟨b, off, h1, by have := hb.size; omega, fun j u hu => (hb.cell (p := ⟨b, off + j, none⟩) (by show b < B; omega)).trans (h3 j u hu)⟩
theorem Row.of_own {w : World} {B e z : Nat} {A : Option Addr} {n m c : Nat} {xs : List Value} (h : w.ownsRow B e z (.slice A m c) n xs) : Row w A xs := by
  rcases h.2 with ⟨hv, h0⟩ | ⟨g, cap, cur, hv, _, hg, _⟩
  · intro hn
    exfalso; apply hn
    have := h.1
    rw [h0, Nat.zero_mul] at this
    exact List.eq_nil_of_length_eq_zero this
  · injection hv with h1 h2 h3
    subst h1
    refine fun _ => ⟨g, 0, rfl, (Array.getElem?_eq_some_iff.1 hg).1, fun j u hu => ?_⟩
    have := h.cells (g := g) rfl j u hu
    rw [Addr.add_lit] at this
    exact this
/-- A graph that lies in memory. -/
structure InG (w : World) (g : Gr) : Prop where
  gs : Row w g.ga (g.gs.flatMap gpC)
  es : Row w g.ea (g.es.flatMap evC)
  rs : Row w g.ra (g.rs.flatMap rlC)
  us : Row w g.ua (g.us.flatMap usC)
  roles : ∀ u ∈ g.us, Row w u.ra (u.roles.map Value.string)
theorem InG.below {w w' : World} {g : Gr} (h : InG w g) {B : Nat} (hB : w.heap.size ≤ B) (hb : Below B w w') : InG w' g :=
  ⟨h.gs.below hB hb, h.es.below hB hb, h.rs.below hB hb, h.us.below hB hb, fun u hu => (h.roles u hu).below hB hb⟩
/-- How great a string, a list may be. -/
def top : Nat := 140737488351232
theorem flat_len {α : Type} (enc : α → List Value) (k : Nat) (hk : ∀ x, (enc x).length = k) : ∀ l : List α, (l.flatMap enc).length = l.length * k
  | [] => by simp
  | x :: r => by rw [List.flatMap_cons, List.length_append, hk, flat_len enc k hk r, List.length_cons, Nat.succ_mul]; omega
theorem flat_at {α : Type} [Inhabited α] (enc : α → List Value) (k : Nat) (hk : ∀ x, (enc x).length = k) : ∀ (l : List α) (i : Nat) (_ : i < l.length) (j : Nat) (_ : j < k), (l.flatMap enc)[i * k + j]? = (enc l[i]!)[j]?
  | [], i, h, _, _ => by simp at h
  | x :: r, 0, _, j, hj => by
    rw [List.flatMap_cons, Nat.zero_mul, Nat.zero_add, List.getElem?_append_left (by rw [hk]; exact hj)]; rfl
  | x :: r, i + 1, h, j, hj => by
    have e : (i + 1) * k = i * k + k := Nat.succ_mul i k
    rw [List.flatMap_cons, List.getElem?_append_right (by rw [hk]; omega), hk, show (i + 1) * k + j - k = i * k + j from by omega, flat_at enc k hk r i (by simpa using h) j hj]
    rfl
/-- The cells of one element of a list. -/
theorem Row.at_ {α : Type} [Inhabited α] {enc : α → List Value} {k : Nat} {w : World} {A : Option Addr} {l : List α} (h : Row w A (l.flatMap enc)) (hk : ∀ x, (enc x).length = k) (k0 : 0 < k) {i : Nat} (hi : i < l.length) :
    ∃ b off, A = some ⟨b, off, none⟩ ∧ b < w.heap.size ∧ ∀ j u, (enc l[i]!)[j]? = some u → w.cell? ⟨b, off + i * k + j, none⟩ = some u := by
  have hl := flat_len enc k hk l
  have hp : 0 < l.length * k := Nat.mul_pos (by omega) k0
  obtain ⟨b, off, h1, h2, h3⟩ := h (fun e => by rw [e] at hl; simp at hl; omega)
  refine ⟨b, off, h1, h2, fun j u hu => ?_⟩
  have hj : j < k := by rw [← hk l[i]!]; exact (List.getElem?_eq_some_iff.1 hu).1
  rw [Nat.add_assoc]
  exact h3 _ _ ((flat_at enc k hk l i hi j hj).trans hu)
/-- Part, place, error. -/
abbrev St := Nat × Nat × Nat
end Go.Proofs.Ytigicbnkfmbolaa

namespace Go.Proofs.Ytigicbnkfmbolaa
open Go.RowKit
/-- A tie. -/
structure Ti where
  kind : Int
  fr : Int
  to : Int
  time : Int
deriving DecidableEq
instance : Inhabited Ti := ⟨⟨0, 0, 0, 0⟩⟩
def tiC (t : Ti) : List Value := [.int .i64 t.kind, .int .i64 t.fr, .int .i64 t.to, .int .i64 t.time]
end Go.Proofs.Ytigicbnkfmbolaa

namespace Go.Proofs.Ytigicbnkfmbolaa.B
open Go.RowKit Go.Shelf
theorem ret_bool {a b : Bool} (h : a = b) : Ending.returned (.bool a) = .returned (.bool b) := by rw [h]
theorem mem_at {α : Type} [Inhabited α] {l : List α} {i : Nat} (h : i < l.length) : l[i]! ∈ l := by rw [getElem!_pos l i h]; exact List.getElem_mem h
theorem heap_new (w : World) (o : Obj) : (w.alloc o).heap[w.heap.size]? = some o := heap_alloc_new w o
theorem heap_old {w : World} {o : Obj} {k : Nat} {u : Option Obj} (h : k < w.heap.size) (hu : w.heap[k]? = u) : (w.alloc o).heap[k]? = u := (Below.heap_alloc w o k h).trans hu
theorem cell_blk {w : World} {b i : Nat} {cs : Array Value} {t : TypeId} {v : Value} (h : w.heap[b]? = some (.cells cs t (0, 0))) (hi : cs[i]? = some v) : w.cell? ⟨b, i, none⟩ = some v := by
  unfold World.cell?; simp only; rw [h]; exact hi
theorem frozen_blk {w : World} {b i : Nat} {cs : Array Value} {t : TypeId} (h : w.heap[b]? = some (.cells cs t (0, 0))) : w.frozen? ⟨b, i, none⟩ = false := by
  unfold World.frozen?; simp only; rw [h]; simp
theorem blk_set {w : World} {b i : Nat} {cs : Array Value} {t : TypeId} {v : Value} (h : w.heap[b]? = some (.cells cs t (0, 0))) : (w.setCell ⟨b, i, none⟩ v).heap[b]? = some (.cells (cs.setIfInBounds i v) t (0, 0)) := by
  simp [World.setCell, Array.getElem?_modify, h]
theorem blk_other {w : World} {b c i : Nat} {v : Value} (h : c ≠ b) : (w.setCell ⟨b, i, none⟩ v).heap[c]? = w.heap[c]? := Below.heap_setCell _ _ _ _ h
theorem blk_lt {w : World} {b : Nat} {o : Obj} (h : w.heap[b]? = some o) : b < w.heap.size := (Array.getElem?_eq_some_iff.1 h).1
theorem below_draws {B : Nat} {a w : World} (h : Below B a w) (n : Nat) : Below B a (w.drewN n) := ⟨h.os, h.tape, h.output, h.size, h.block⟩
theorem own_slice {w : World} {B e z n : Nat} {v : Value} {xs : List Value} (h : w.ownsRow B e z v n xs) : ∃ ao cap, v = .slice ao n cap := by
  rcases h.2 with ⟨hv, h0⟩ | ⟨g, cap, cur, hv, _⟩
  · exact ⟨none, 0, by rw [hv, h0]⟩
  · exact ⟨_, _, hv⟩
theorem own_below {w w1 : World} {B e z n : Nat} {v : Value} {xs : List Value} (h : w.ownsRow B e z v n xs) (hb : Below w.heap.size w w1) : w1.ownsRow B e z v n xs :=
  h.kept (row := none) ⟨hb.os, hb.tape, hb.output, hb.size, fun k hk _ => hb.block k hk⟩ (by cases hv : v.ownBlock <;> simp)
theorem own_base {w : World} {B B' e z n : Nat} {v : Value} {xs : List Value} (h : w.ownsRow B e z v n xs) (hB : B' ≤ B) : w.ownsRow B' e z v n xs := by
  refine ⟨h.1, ?_⟩
  rcases h.2 with h | ⟨g, cap, cur, h1, h2, h3⟩
  · exact .inl h
  · exact .inr ⟨g, cap, cur, h1, Nat.le_trans hB h2, h3⟩
theorem own_far {w : World} {B e z n b : Nat} {v : Value} {xs : List Value} {cs : Array Value} {T : TypeId} (hown : w.ownsRow B e z v n xs) (h : w.heap[b]? = some (.cells cs T (0, 0))) (he : e ≠ T) : v.ownBlock ≠ some b := by
  rcases hown.2 with ⟨rfl, _⟩ | ⟨g, cap, cur, rfl, _, hg, _⟩
  · intro hh; cases hh
  · intro hh
    simp only [Value.ownBlock, Option.some.injEq] at hh
    subst hh
    rw [h] at hg
    simp only [Option.some.injEq, Obj.cells.injEq] at hg
    exact he hg.2.1.symm
theorem own_set {w : World} {B e z n b i : Nat} {v : Value} {xs : List Value} (h : w.ownsRow B e z v n xs) (hne : v.ownBlock ≠ some b) (u : Value) : (w.setCell ⟨b, i, none⟩ u).ownsRow B e z v n xs :=
  h.kept (row := some b) ⟨rfl, rfl, rfl, by simp, fun k _ hk => Below.heap_setCell _ _ _ _ (fun e => hk (by rw [e]))⟩ (.inr hne)
theorem own_cap {w : World} {B e z n c : Nat} {A : Option Addr} {xs : List Value} (h : w.ownsRow B e z (.slice A n c) n xs) : n ≤ c ∧ (A = none → c = 0) := by
  rcases h.2 with ⟨hv, h0⟩ | ⟨g, cap, cur, hv, _, _, hn, _⟩
  · injection hv with _ h2 h3; exact ⟨by omega, fun _ => h3⟩
  · injection hv with h1 _ h3; exact ⟨by omega, fun e => by rw [e] at h1; cases h1⟩
/-- A row that is not empty lies at the head of a block. -/
theorem own_head {w : World} {B e z n : Nat} {v : Value} {xs : List Value} (h : w.ownsRow B e z v n xs) (h0 : 0 < n) : ∃ g cap, v = .slice (some ⟨g, 0, none⟩) n cap ∧ B ≤ g ∧ g < w.heap.size := by
  rcases h.2 with ⟨_, hn⟩ | ⟨g, cap, cur, hv, hg, hh, _⟩
  · omega
  · exact ⟨g, cap, hv, hg, blk_lt hh⟩
theorem take_next {α : Type} [Inhabited α] {l : List α} {k : Nat} (hk : k < l.length) : l.take (k + 1) = l.take k ++ [l[k]!] := by
  rw [List.take_succ_eq_append_getElem hk, ← getElem!_pos l k hk]
/-- Those of the first k that p takes. -/
def selL {α : Type} (p : α → Bool) (l : List α) (k : Nat) : List α := (l.take k).filter p
theorem sel_yes {α : Type} [Inhabited α] {p : α → Bool} {l : List α} {k : Nat} (hk : k < l.length) (h : p l[k]! = true) : selL p l (k + 1) = selL p l k ++ [l[k]!] := by
  rw [selL, take_next hk, List.filter_append, List.filter_cons_of_pos h]; rfl
theorem sel_no {α : Type} [Inhabited α] {p : α → Bool} {l : List α} {k : Nat} (hk : k < l.length) (h : p l[k]! = false) : selL p l (k + 1) = selL p l k := by
  rw [selL, take_next hk, List.filter_append, List.filter_cons_of_neg (by rw [h]; decide), List.filter_nil, List.append_nil]; rfl
theorem sel_len {α : Type} (p : α → Bool) (l : List α) (k : Nat) : (selL p l k).length ≤ k := by
  have h1 := List.length_filter_le p (l.take k)
  have h2 : (l.take k).length ≤ k := by rw [List.length_take]; omega
  unfold selL; omega
theorem sel_all {α : Type} (p : α → Bool) (l : List α) : selL p l l.length = l.filter p := by rw [selL, List.take_length]
/-- Where the first of some is of which p holds; below 0: nowhere. -/
def idxB {α : Type} (p : α → Bool) (l : List α) : Int := match l.findIdx? p with | some i => (i : Int) | none => -1
theorem idxB_miss {α : Type} [Inhabited α] {p : α → Bool} {l : List α} (h : ∀ j, j < l.length → p l[j]! = false) : idxB p l = -1 := by
  have : l.findIdx? p = none := by
    rw [List.findIdx?_eq_none_iff]
    intro x hx
    obtain ⟨j, hj, rfl⟩ := List.getElem_of_mem hx
    rw [← getElem!_pos l j hj]; exact h j hj
  simp [idxB, this]
theorem idxB_any {α : Type} (p : α → Bool) (l : List α) : decide (0 ≤ idxB p l) = l.any p := by
  unfold idxB
  cases h : l.findIdx? p with
  | none =>
    rw [List.findIdx?_eq_none_iff] at h
    have : l.any p = false := by simpa using h
    simp [this]
  | some i =>
    obtain ⟨hi, hp, _⟩ := List.findIdx?_eq_some_iff_getElem.1 h
    have : l.any p = true := by rw [List.any_eq_true]; exact ⟨_, List.getElem_mem hi, hp⟩
    rw [this]; simp
theorem all_step {α : Type} [Inhabited α] {p : α → Bool} {l : List α} {k : Nat} (h : ∀ j, j < k → p l[j]! = false) (hk : p l[k]! = false) : ∀ j, j < k + 1 → p l[j]! = false := by
  intro j hj
  by_cases e : j = k
  · rw [e]; exact hk
  · exact h j (by omega)
theorem any_miss {α : Type} [Inhabited α] {p : α → Bool} {l : List α} (h : ∀ j, j < l.length → p l[j]! = false) : l.any p = false := by
  rw [← idxB_any, idxB_miss h]; rfl
theorem any_hit {α : Type} [Inhabited α] {p : α → Bool} {l : List α} {k : Nat} (hk : k < l.length) (hp : p l[k]! = true) : l.any p = true := by
  rw [List.any_eq_true]; exact ⟨_, mem_at hk, hp⟩
def eqLB {α : Type} [Inhabited α] (p : α → α → Bool) (a b : List α) : Bool := decide (a.length = b.length) && (List.range a.length).all (fun i => p a[i]! b[i]!)
theorem eqLB_len {α : Type} [Inhabited α] {p : α → α → Bool} {a b : List α} (h : ¬ a.length = b.length) : eqLB p a b = false := by simp [eqLB, h]
theorem eqLB_all {α : Type} [Inhabited α] {p : α → α → Bool} {a b : List α} (h : a.length = b.length) (hp : ∀ j, j < a.length → p a[j]! b[j]! = true) : eqLB p a b = true := by
  simp only [eqLB, decide_eq_true h, Bool.true_and, List.all_eq_true, List.mem_range]; exact hp
theorem eqLB_bad {α : Type} [Inhabited α] {p : α → α → Bool} {a b : List α} {k : Nat} (hk : k < a.length) (hp : p a[k]! b[k]! = false) : eqLB p a b = false := by
  have : (List.range a.length).all (fun i => p a[i]! b[i]!) = false := by
    rw [List.all_eq_false]; exact ⟨k, List.mem_range.2 hk, by rw [hp]; decide⟩
  rw [eqLB, this, Bool.and_false]
theorem all_more {α : Type} [Inhabited α] {p : α → α → Bool} {a b : List α} {k : Nat} (h : ∀ j, j < k → p a[j]! b[j]! = true) (hk : p a[k]! b[k]! = true) : ∀ j, j < k + 1 → p a[j]! b[j]! = true := by
  intro j hj
  by_cases e : j = k
  · rw [e]; exact hk
  · exact h j (by omega)
theorem eqLB_iff {α : Type} [Inhabited α] {p : α → α → Bool} {a b : List α} : eqLB p a b = true ↔ a.length = b.length ∧ ∀ j, j < a.length → p a[j]! b[j]! = true := by
  rw [eqLB, Bool.and_eq_true, decide_eq_true_eq, List.all_eq_true]
  exact ⟨fun ⟨h1, h2⟩ => ⟨h1, fun j hj => h2 j (List.mem_range.2 hj)⟩, fun ⟨h1, h2⟩ => ⟨h1, fun j hj => h2 j (List.mem_range.1 hj)⟩⟩
end Go.Proofs.Ytigicbnkfmbolaa.B
