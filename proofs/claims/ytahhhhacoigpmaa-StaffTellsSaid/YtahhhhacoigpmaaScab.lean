/-
  What a loop over slices.Backward that fills a map keeps, whatever the elements are. Ties as they lie in memory; no program. Helpers that name no function of the program: cells, blocks, owned rows, searches, lists that are held against each other, copy of a list of structs. Package staff, plainly: members, their places, chains, who holds a role, who may; how a staff lies in memory.
-/
import Derived.Test.YtahhhhacoigpmaaScaa
import Derived.RangeFuncNested
import Derived.RangeFuncBound
import Derived.RangeFuncCalls
import Derived.RangeFuncLeaves
import Derived.Shelf.Abstract
import Derived.Shelf.AbstractIn
import Derived.Shelf.RegionOpen
import Derived.WalkKit
import Derived.OwnWalkIn
import Derived.TacticsInMore
import Derived.LoopNIn
import Derived.LoopIn
import Derived.Outline
import Derived.Lib.SmallJoins
import Derived.ChangeMaps5
import Derived.WalkSpells
import Derived.WalkLawsBesides
import Derived.OwnWalk
import Derived.Lib.Hide
import Derived.Lib.Strings
import Derived.Laws.OwnMore
import Derived.Laws.CopyRow
import Derived.BigQuiet
import Derived.Deep.QuietTactic
import Derived.RegionTactic
namespace Go.Proofs.Ytahhhhacoigpmaa
open Go.RowKit Go.Shelf Go.ChangeShapes Go.ChangeMaps
attribute [local go_sem] Oper.semAt_some
/-- Below a place, all but one block is as it was. -/
def KpM (n₀ m : Nat) (W W' : World) : Prop := ∀ k, k < n₀ → k ≠ m → W'.heap[k]? = W.heap[k]?
theorem KpM.trans {n₀ m : Nat} {A B C : World} (h : KpM n₀ m A B) (k : KpM n₀ m B C) : KpM n₀ m A C := fun i h1 h2 => (k i h1 h2).trans (h i h1 h2)
theorem KpM.cell {n₀ m : Nat} {W W' : World} (h : KpM n₀ m W W') {p : Addr} (h1 : p.block < n₀) (h2 : p.block ≠ m) : W'.cell? p = W.cell? p := World.cell?_of_block (w := W) (h p.block h1 h2)
def litS (s : ByteArray) : Lit := .string s.data.toList
theorem lawS : Maps.Keyed Try.prog 9 := Maps.string_keyed Try.underlying9
theorem keyS {s : ByteArray} (h : s.size ≤ 140737488351232) : keyOf Try.prog 9 (.string s) = some (litS s) := WideMaps.keyOf_string_mk Try.underlying9 (by unfold maxLen; omega)
/-- A relation's key: its kind, and the two that it names. -/
noncomputable def rlit (k : RKey) : Lit := (DataW.agg [.lit (.int .i64 k.1), .lit (.string k.2.1), .lit (.string k.2.2), .lit (.int .i64 0)] : DataW Unit).asKey
theorem progLaid : laidOutB Try.prog = true := by kernel_rfl
theorem rowR : (60 : TypeId) < Try.prog.types.size := of_decide_eq_true (by kernel_rfl)
theorem deepR3 : Try.prog.keyTypeAt 3 60 = true := by kernel_rfl
theorem deepR : Try.prog.keyTypeAt (Try.prog.types.size + 1) 60 = true := by kernel_rfl
theorem cellsR : Try.prog.cellsOf 60 = 4 := by kernel_rfl
theorem formR (a b c d : Value) : (Value.agg #[a, b, c, d]).formed Try.prog 60 = true := by simp [Value.formed, Try.underlying60, cellsR]
theorem lawR_of {P : Program} (hl : laidOutB P = true) {k : TypeId} (hrow : k < P.types.size) (hk : P.keyTypeAt 3 k = true) {fs : Array Field} (h : P.underlying k = some (.struct fs)) : WideMaps.KeyLaw P k :=
  deep_law_laid hl (m := 3) (by omega) hrow hk (by rw [h])
theorem keyOf_of {P : Program} {w : World} {k : TypeId} (hk : P.keyTypeAt (P.types.size + 1) k = true) {fs : Array Field} (h : P.underlying k = some (.struct fs)) {v : Value} (hf : v.formed P k = true) {d : DataW Unit} {ps : List MemPlace}
    (hd : DataW.Trod (fun _ => ()) P w 0 (fun _ => false) true k v d ps) : keyOf P k v = some d.asKey := (keyOf_asKey hk (by rw [h]) hf hd).1
theorem lawR : Maps.Keyed Try.prog 60 := Maps.Keyed.of_law (lawR_of progLaid rowR deepR3 Try.underlying60)
structure OkR (r : Rl) : Prop where
  src : r.src.size ≤ 140737488351232
  dst : r.dst.size ≤ 140737488351232
  kind : (Lit.int .i64 r.kind).wf = true
theorem keyR {r : Rl} (h : OkR r) : keyOf Try.prog 60 (.agg #[.int .i64 r.kind, .string r.src, .string r.dst, .int .i64 0]) = some (rlit (rkey r)) := by
  have hi : ∀ n : Int, (Lit.int .i64 n).wf = true → ∃ m, DataW.trod (fun _ => ()) Try.prog (default : World) 0 (fun _ => false) true m 3 [.int .i64 n] = some (.lit (.int .i64 n), []) := fun n hn => by
    obtain ⟨m, hm⟩ := shut_int (enc := fun _ => ()) (P := Try.prog) (w := default) (base := 0) (spare := fun _ => false) (held := true) Try.underlying3 hn
    exact ⟨m, hm⟩
  have hst : ∀ s : ByteArray, s.size ≤ 140737488351232 → ∃ m, DataW.trod (fun _ => ()) Try.prog (default : World) 0 (fun _ => false) true m 9 [.string s] = some (.lit (.string s.toList), []) := fun s hs => by
    obtain ⟨m, hm⟩ := shut_string (enc := fun _ => ()) (P := Try.prog) (w := default) (base := 0) (sp := fun _ => false) (held := true) Try.underlying9 (s := s) (by unfold maxLen; omega)
    rw [Lib.toList_data]
    exact ⟨m, hm⟩
  have := Joins.shut_agg4 (enc := fun _ => ()) (P := Try.prog) (w := default) (base := 0) (spare := fun _ => false) (held := true) Try.underlying60 (by kernel_rfl) cellsR (hi _ h.kind) (hst _ h.src) (hst _ h.dst) (hi 0 (by decide))
  exact keyOf_of deepR Try.underlying60 (formR _ _ _ _) this
theorem mkS (n : Int) (w : World) : (Instr.makeMap 65 (some (.int .i64 n))).run Try.prog w = .ok (.map (some w.heap.size)) (w.alloc (.map #[] 0)) := by
  simp [Instr.makeMap, run_underlying Try.underlying65, asInt, asIntOf, Result.andThen]
theorem mkR (n : Int) (w : World) : (Instr.makeMap 86 (some (.int .i64 n))).run Try.prog w = .ok (.map (some w.heap.size)) (w.alloc (.map #[] 0)) := by
  simp [Instr.makeMap, run_underlying Try.underlying86, asInt, asIntOf, Result.andThen]
theorem cell_new1 (w : World) (v : Value) (t : TypeId) : (w.alloc (.cells #[v] t)).cell? ⟨w.heap.size, 0, none⟩ = some v := by
  have h := (World.alloc_heap_new w (.cells #[v] t))
  unfold World.cell?
  simp only
  rw [h]
  rfl
theorem cell_old (w : World) (o : Obj) {a : Addr} (h : a.block < w.heap.size) {u : Option Value} (hu : w.cell? a = u) : (w.alloc o).cell? a = u := (World.cell?_alloc_lt _ _ _ h).trans hu
/-- Between two rounds: the function and the map are where they were; what the map holds. -/
def FI (K : TypeId) (w : World) (kf : Value) {n : Nat} (f : Fin n → Lit) (pre : List (Fin n)) (W : World) : Prop :=
  (W.cell? ⟨w.heap.size, 0, none⟩ = some kf ∧ W.cell? ⟨w.heap.size + 2, 0, none⟩ = some (.map (some (w.heap.size + 1))) ∧ MapFn W Try.prog K 3 (w.heap.size + 1) pre.length (lastF f pre)) ∧ (Below w.heap.size w W ∧ w.heap.size + 4 ≤ W.heap.size)
theorem FI.own {K : TypeId} {w : World} {kf : Value} {n : Nat} {f : Fin n → Lit} {B : Nat} (hB : B = w.heap.size + 4) : OwnFrom B (FI K w kf f) := by
  subst hB
  exact OwnFrom.and (fun s A' B' row hs hg hr => ⟨cell_kept hs.1 hg (fun r e => (hr r e).2), cell_kept hs.2.1 hg (fun r e => (hr r e).2), hs.2.2.block (hg.block _ hs.2.2.lt (fun e => by have := (hr _ e.symm).1; omega))⟩) (OwnFrom.and (ownFrom_below (Nat.le_refl _) (by omega)) (fun _ _ _ _ hs hg _ => Nat.le_trans hs hg.size))
theorem FI.alloc {K : TypeId} {w W : World} {kf : Value} {n : Nat} {f : Fin n → Lit} {pre : List (Fin n)} (h : FI K w kf f pre W) (o : Obj) : FI K w kf f pre (W.alloc o) := (FI.own rfl).alloc o h
theorem FI.step {K : TypeId} {w W V w1 : World} {kf : Value} {n : Nat} {f : Fin n → Lit} {pre : List (Fin n)} {x : Fin n} {D : DataW Unit} {kl : Lit} {B : Nat} (hB : B = w.heap.size + 4) (h : FI K w kf f pre W) (hV : Below W.heap.size W V) (hKO : KeepsOthers W V)
    (hown : W.ownsMap Try.prog K (plainElem Try.prog 3) (w.heap.size + 1) pre.length D) (hf : ∀ l, WideAt.IsKeyLit l → Maps.has D l = (lastF f pre l).isSome ∧ D.atKey l (.lit (.int .i64 0)) = .lit (.int .i64 (((lastF f pre l).getD 0 : Nat) : Int)))
    (hown1 : w1.ownsMap Try.prog K (plainElem Try.prog 3) (w.heap.size + 1) (pre.length + 1) (D.put kl (.lit (.int .i64 (x.val : Int))))) (hg : V.grownBy w1 (some (w.heap.size + 1))) (hkl : f x = kl) (hk : WideAt.IsKeyLit kl) (a : Act) :
    ownPostG B (KpM (w.heap.size + 4) (w.heap.size + 1)) (FI K w kf f) (fun _ _ _ => False) (pre ++ [x]) W Exit.normal a w1 := by
  subst hB
  have hz := h.2.2
  have hgs := hg.size
  have hVs := hV.size
  have hblk : ∀ k, k < W.heap.size → k ≠ w.heap.size + 1 → w1.heap[k]? = W.heap[k]? := fun k h1 h2 =>
    (hg.block k (by omega) (fun e => h2 (by injection e))).trans (hV.block k h1)
  refine ⟨(hKO.from _).trans (KeepsFrom.of_grownBy hg (fun j e => by cases e; omega)), fun k hk hm => hblk k (by omega) hm, ⟨?_, ?_, ?_⟩, ?_, by omega⟩
  · exact (World.cell?_of_block (w := W) (a := ⟨w.heap.size, 0, none⟩) (hblk w.heap.size (by omega) (by omega))).trans h.1.1
  · exact (World.cell?_of_block (w := W) (a := ⟨w.heap.size + 2, 0, none⟩) (hblk (w.heap.size + 2) (by omega) (by omega))).trans h.1.2.1
  · rw [lastF_snoc, List.length_append, hkl]
    exact MapFn.of_own hf hown.isMap hk hown1
  · exact (h.2.1.trans (hV.mono (by omega))).grown hg (by omega) (fun k e => by cases e; omega)
theorem FI.done {α : Type} {K : TypeId} {w W : World} {kf : Value} {key : α → Lit} {l : List α} {D : Nat} {o' : Obj} (hD : w.heap.size + 4 ≤ D) (h : FI K w kf (fun i : Fin l.length => key l[i]) (List.finRange l.length).reverse W) (hK : W.heap[D]? = some (.deferred (some []))) :
    MapFn (W.putObj D o') Try.prog K 3 (w.heap.size + 1) l.length (firstOf (l.map key)) ∧ Below w.heap.size w (W.putObj D o') ∧ w.heap.size ≤ w.heap.size + 1 := by
  have h' := (FI.own (K := K) (w := w) (kf := kf) (f := fun i : Fin l.length => key l[i]) rfl).putObj o' h hD hK rfl
  have hm := h'.1.2.2
  rw [lastF_all, List.length_reverse, List.length_finRange] at hm
  exact ⟨hm, h'.2.1, by omega⟩
end Go.Proofs.Ytahhhhacoigpmaa

namespace Go.Proofs.Ytahhhhacoigpmaa
open Go.RowKit
/-- A tie. -/
structure Ti where
  kind : Int
  fr : Int
  to : Int
  time : Int
deriving DecidableEq
instance : Inhabited Ti := ⟨⟨0, 0, 0, 0⟩⟩
end Go.Proofs.Ytahhhhacoigpmaa

namespace Go.Proofs.Ytahhhhacoigpmaa.B
open Go.RowKit Go.Shelf
theorem ret_bool {a b : Bool} (h : a = b) : Ending.returned (.bool a) = .returned (.bool b) := by rw [h]
theorem ret_i64 {a b : Int} (h : a = b) : Ending.returned (.int .i64 a) = .returned (.int .i64 b) := by rw [h]
theorem mem_at {α : Type} [Inhabited α] {l : List α} {i : Nat} (h : i < l.length) : l[i]! ∈ l := by rw [getElem!_pos l i h]; exact List.getElem_mem h
theorem heap_new (w : World) (o : Obj) : (w.alloc o).heap[w.heap.size]? = some o := heap_alloc_new w o
theorem heap_old {w : World} {o : Obj} {k : Nat} {u : Option Obj} (h : k < w.heap.size) (hu : w.heap[k]? = u) : (w.alloc o).heap[k]? = u := (Below.heap_alloc w o k h).trans hu
theorem cell_blk {w : World} {b i : Nat} {cs : Array Value} {t : TypeId} {v : Value} (h : w.heap[b]? = some (.cells cs t (0, 0))) (hi : cs[i]? = some v) : w.cell? ⟨b, i, none⟩ = some v := by
  unfold World.cell?; simp only; rw [h]; exact hi
theorem frozen_blk {w : World} {b i : Nat} {cs : Array Value} {t : TypeId} (h : w.heap[b]? = some (.cells cs t (0, 0))) : w.frozen? ⟨b, i, none⟩ = false := by
  unfold World.frozen?; simp only; rw [h]; simp
theorem blk_set {w : World} {b i : Nat} {cs : Array Value} {t : TypeId} {v : Value} (h : w.heap[b]? = some (.cells cs t (0, 0))) : (w.setCell ⟨b, i, none⟩ v).heap[b]? = some (.cells (cs.setIfInBounds i v) t (0, 0)) := by
  simp [World.setCell, Array.getElem?_modify, h]
theorem blk_other {w : World} {b c i : Nat} {v : Value} (h : c ≠ b) : (w.setCell ⟨b, i, none⟩ v).heap[c]? = w.heap[c]? := Below.heap_setCell _ _ _ _ h
theorem blk_lt {w : World} {b : Nat} {o : Obj} (h : w.heap[b]? = some o) : b < w.heap.size := (Array.getElem?_eq_some_iff.1 h).1
theorem below_draws {B : Nat} {a w : World} (h : Below B a w) (n : Nat) : Below B a (w.drewN n) := ⟨h.os, h.tape, h.output, h.size, h.block⟩
theorem quiet_left {P : Program} {f : FuncId} {args : Array Value} {w : World} {n : Nat} {v : Value}
    (h : Calls P f args (w.drewN n) fun e w' => e = .returned v ∧ w.drewN n = w') : Calls P f args (w.drewN n) fun e w'' => e = .returned v ∧ ∃ m, w'' = w.drewN m :=
  h.mono fun _ _ ⟨he, hm⟩ => ⟨he, n, hm.symm⟩
theorem own_slice {w : World} {B e z n : Nat} {v : Value} {xs : List Value} (h : w.ownsRow B e z v n xs) : ∃ ao cap, v = .slice ao n cap := by
  rcases h.2 with ⟨hv, h0⟩ | ⟨g, cap, cur, hv, _⟩
  · exact ⟨none, 0, by rw [hv, h0]⟩
  · exact ⟨_, _, hv⟩
theorem own_below {w w1 : World} {B e z n : Nat} {v : Value} {xs : List Value} (h : w.ownsRow B e z v n xs) (hb : Below w.heap.size w w1) : w1.ownsRow B e z v n xs :=
  h.kept (row := none) ⟨hb.os, hb.tape, hb.output, hb.size, fun k hk _ => hb.block k hk⟩ (by cases hv : v.ownBlock <;> simp)
theorem own_base {w : World} {B B' e z n : Nat} {v : Value} {xs : List Value} (h : w.ownsRow B e z v n xs) (hB : B' ≤ B) : w.ownsRow B' e z v n xs := by
  refine ⟨h.1, ?_⟩
  rcases h.2 with h | ⟨g, cap, cur, h1, h2, h3⟩
  · exact .inl h
  · exact .inr ⟨g, cap, cur, h1, Nat.le_trans hB h2, h3⟩
theorem own_far {w : World} {B e z n b : Nat} {v : Value} {xs : List Value} {cs : Array Value} {T : TypeId} (hown : w.ownsRow B e z v n xs) (h : w.heap[b]? = some (.cells cs T (0, 0))) (he : e ≠ T) : v.ownBlock ≠ some b := by
  rcases hown.2 with ⟨rfl, _⟩ | ⟨g, cap, cur, rfl, _, hg, _⟩
  · intro hh; cases hh
  · intro hh
    simp only [Value.ownBlock, Option.some.injEq] at hh
    subst hh
    rw [h] at hg
    simp only [Option.some.injEq, Obj.cells.injEq] at hg
    exact he hg.2.1.symm
theorem own_set {w : World} {B e z n b i : Nat} {v : Value} {xs : List Value} (h : w.ownsRow B e z v n xs) (hne : v.ownBlock ≠ some b) (u : Value) : (w.setCell ⟨b, i, none⟩ u).ownsRow B e z v n xs :=
  h.kept (row := some b) ⟨rfl, rfl, rfl, by simp, fun k _ hk => Below.heap_setCell _ _ _ _ (fun e => hk (by rw [e]))⟩ (.inr hne)
/-- A row that is not empty lies at the head of a block. -/
theorem own_head {w : World} {B e z n : Nat} {v : Value} {xs : List Value} (h : w.ownsRow B e z v n xs) (h0 : 0 < n) : ∃ g cap, v = .slice (some ⟨g, 0, none⟩) n cap ∧ B ≤ g ∧ g < w.heap.size := by
  rcases h.2 with ⟨_, hn⟩ | ⟨g, cap, cur, hv, hg, hh, _⟩
  · omega
  · exact ⟨g, cap, hv, hg, blk_lt hh⟩
theorem flat_one {α : Type} {enc : α → List Value} (h : ∀ x, ∀ u ∈ enc x, u.oneCell' = true) (l : List α) : ∀ u ∈ l.flatMap enc, u.oneCell' = true := by
  intro u hu
  obtain ⟨x, _, hx⟩ := List.mem_flatMap.1 hu
  exact h x u hx
theorem flat_set {α : Type} (enc : α → List Value) (k : Nat) (hk : ∀ x, (enc x).length = k) : ∀ (l : List α) (i : Nat) (_ : i < l.length) (j : Nat) (_ : j < k) (v : Value) (y : α) (_ : ∀ x, l[i]? = some x → enc y = (enc x).set j v), (l.flatMap enc).set (i * k + j) v = (l.set i y).flatMap enc
  | [], i, h, _, _, _, _, _ => by simp at h
  | x :: r, 0, _, j, hj, v, y, hy => by
    rw [List.flatMap_cons, List.set_cons_zero, List.flatMap_cons, Nat.zero_mul, Nat.zero_add, List.set_append_left _ _ (by rw [hk]; exact hj), hy x rfl]
  | x :: r, i + 1, h, j, hj, v, y, hy => by
    have e : (i + 1) * k = i * k + k := Nat.succ_mul i k
    rw [List.flatMap_cons, List.set_cons_succ, List.flatMap_cons, List.set_append_right _ _ (by rw [hk]; omega), hk, show (i + 1) * k + j - k = i * k + j from by omega, flat_set enc k hk r i (by simpa using h) j hj v y (fun z hz => hy z (by simpa using hz))]
theorem get_some {α : Type} [Inhabited α] {l : List α} {k : Nat} {x : α} (h : l[k]? = some x) : x = l[k]! := by
  obtain ⟨hk, rfl⟩ := List.getElem?_eq_some_iff.1 h
  rw [getElem!_pos l k hk]
theorem set_at {α : Type} [Inhabited α] {l : List α} {k j : Nat} {y : α} (h : k ≠ j) : (l.set k y)[j]! = l[j]! := by
  by_cases hjl : j < l.length
  · rw [getElem!_pos _ j (by simpa using hjl), getElem!_pos l j hjl, List.getElem_set_ne h]
  · rw [getElem!_neg _ j (by simpa using hjl), getElem!_neg l j hjl]
theorem set_here {α : Type} [Inhabited α] {l : List α} {k : Nat} {y : α} (h : k < l.length) : (l.set k y)[k]! = y := by
  rw [getElem!_pos _ k (by simpa using h), List.getElem_set_self]
theorem take_next {α : Type} [Inhabited α] {l : List α} {k : Nat} (hk : k < l.length) : l.take (k + 1) = l.take k ++ [l[k]!] := by
  rw [List.take_succ_eq_append_getElem hk, ← getElem!_pos l k hk]
/-- Where the first of some is of which p holds; below 0: nowhere. -/
def idxB {α : Type} (p : α → Bool) (l : List α) : Int := match l.findIdx? p with | some i => (i : Int) | none => -1
theorem idxB_hit {α : Type} [Inhabited α] {p : α → Bool} {l : List α} {k : Nat} (hk : k < l.length) (hp : p l[k]! = true) (h : ∀ j, j < k → p l[j]! = false) : idxB p l = k := by
  have : l.findIdx? p = some k := by
    rw [List.findIdx?_eq_some_iff_getElem]
    refine ⟨hk, by rw [← getElem!_pos l k hk]; exact hp, fun j hj => ?_⟩
    have := h j hj
    rw [getElem!_pos l j (by omega)] at this
    simp [this]
  simp [idxB, this]
theorem idxB_miss {α : Type} [Inhabited α] {p : α → Bool} {l : List α} (h : ∀ j, j < l.length → p l[j]! = false) : idxB p l = -1 := by
  have : l.findIdx? p = none := by
    rw [List.findIdx?_eq_none_iff]
    intro x hx
    obtain ⟨j, hj, rfl⟩ := List.getElem_of_mem hx
    rw [← getElem!_pos l j hj]; exact h j hj
  simp [idxB, this]
theorem idxB_any {α : Type} (p : α → Bool) (l : List α) : decide (0 ≤ idxB p l) = l.any p := by
  unfold idxB
  cases h : l.findIdx? p with
  | none =>
    rw [List.findIdx?_eq_none_iff] at h
    have : l.any p = false := by simpa using h
    simp [this]
  | some i =>
    obtain ⟨hi, hp, _⟩ := List.findIdx?_eq_some_iff_getElem.1 h
    have : l.any p = true := by rw [List.any_eq_true]; exact ⟨_, List.getElem_mem hi, hp⟩
    rw [this]; simp
theorem all_step {α : Type} [Inhabited α] {p : α → Bool} {l : List α} {k : Nat} (h : ∀ j, j < k → p l[j]! = false) (hk : p l[k]! = false) : ∀ j, j < k + 1 → p l[j]! = false := by
  intro j hj
  by_cases e : j = k
  · rw [e]; exact hk
  · exact h j (by omega)
def eqLB {α : Type} [Inhabited α] (p : α → α → Bool) (a b : List α) : Bool := decide (a.length = b.length) && (List.range a.length).all (fun i => p a[i]! b[i]!)
theorem eqLB_len {α : Type} [Inhabited α] {p : α → α → Bool} {a b : List α} (h : ¬ a.length = b.length) : eqLB p a b = false := by simp [eqLB, h]
theorem eqLB_all {α : Type} [Inhabited α] {p : α → α → Bool} {a b : List α} (h : a.length = b.length) (hp : ∀ j, j < a.length → p a[j]! b[j]! = true) : eqLB p a b = true := by
  simp only [eqLB, decide_eq_true h, Bool.true_and, List.all_eq_true, List.mem_range]; exact hp
theorem eqLB_bad {α : Type} [Inhabited α] {p : α → α → Bool} {a b : List α} {k : Nat} (hk : k < a.length) (hp : p a[k]! b[k]! = false) : eqLB p a b = false := by
  have : (List.range a.length).all (fun i => p a[i]! b[i]!) = false := by
    rw [List.all_eq_false]; exact ⟨k, List.mem_range.2 hk, by rw [hp]; decide⟩
  rw [eqLB, this, Bool.and_false]
theorem all_more {α : Type} [Inhabited α] {p : α → α → Bool} {a b : List α} {k : Nat} (h : ∀ j, j < k → p a[j]! b[j]! = true) (hk : p a[k]! b[k]! = true) : ∀ j, j < k + 1 → p a[j]! b[j]! = true := by
  intro j hj
  by_cases e : j = k
  · rw [e]; exact hk
  · exact h j (by omega)
end Go.Proofs.Ytahhhhacoigpmaa.B

namespace Go.Proofs.Ytahhhhacoigpmaa.SF
open Go.RowKit Go.Shelf Go.Proofs.Ytahhhhacoigpmaa.B
/-- A member: its name, its roles (and where they lie), the place of who stands in, whether it is away. -/
structure Mb where
  name : ByteArray
  ra : Option Addr
  rc : Nat
  roles : List ByteArray
  sub : Int
  away : Bool
instance : Inhabited Mb := ⟨⟨ByteArray.empty, none, 0, [], -1, false⟩⟩
def mbC (m : Mb) : List Value := [.string m.name, .slice m.ra m.roles.length m.rc, .int .i64 m.sub, .bool m.away]
def nms (M : List Mb) : List Key := M.map (·.name.toList)
/-- The place of a name; -1: there is none. -/
def placeL (M : List Mb) (k : Key) : Int := if hasB (nms M) k then (((nms M).idxOf k : Nat) : Int) else -1
/-- A chain. -/
def ChR (M : List Mb) : Int → List Nat → Prop
  | k, [] => k < 0
  | k, x :: r => k = (x : Int) ∧ x < M.length ∧ ChR M M[x]!.sub r
def chL (M : List Mb) : Nat → Int → List Nat
  | 0, _ => []
  | n + 1, k => if k < 0 then [] else k.toNat :: chL M n M[k.toNat]!.sub
/-- The chain from a place on. -/
def chain (M : List Mb) (k : Int) : List Nat := chL M M.length k
/-- Some steps on. -/
def itN (M : List Mb) : Nat → Int → Int
  | 0, k => k
  | j + 1, k => if k < 0 then -1 else itN M j M[k.toNat]!.sub
/-- Members of whom the names are apart, and the chains end. -/
structure OkM (M : List Mb) : Prop where
  few : M.length ≤ 40
  nod : (nms M).Nodup
  sub : ∀ x : Nat, x < M.length → -1 ≤ M[x]!.sub ∧ M[x]!.sub < M.length
  ring : ∀ x : Nat, x < M.length → ∀ j, j < M.length → itN M (j + 1) x ≠ x
  names : ∀ m ∈ M, m.name.size ≤ 140737488351232
  roles : ∀ m ∈ M, m.roles.length ≤ 8
theorem it_neg (M : List Mb) : ∀ j : Nat, itN M j (-1) = -1
  | 0 => rfl
  | _ + 1 => by unfold itN; rw [if_pos (by omega)]
theorem it_add (M : List Mb) : ∀ (a b : Nat) (k : Int), itN M (a + b) k = itN M b (itN M a k) ∨ (k < 0 ∧ a = 0 ∧ itN M (a + b) k = itN M b k)
  | 0, b, k => .inl (by rw [Nat.zero_add]; rfl)
  | a + 1, b, k => by
    by_cases hk : k < 0
    · left
      rw [show a + 1 + b = (a + b) + 1 by omega]
      show (if k < 0 then -1 else itN M (a + b) M[k.toNat]!.sub) = itN M b (if k < 0 then -1 else itN M a M[k.toNat]!.sub)
      rw [if_pos hk, if_pos hk, it_neg]
    · left
      rw [show a + 1 + b = (a + b) + 1 by omega]
      show (if k < 0 then -1 else itN M (a + b) M[k.toNat]!.sub) = itN M b (if k < 0 then -1 else itN M a M[k.toNat]!.sub)
      rw [if_neg hk, if_neg hk]
      rcases it_add M a b M[k.toNat]!.sub with h | ⟨_, rfl, h⟩
      · exact h
      · rw [h]; rfl
theorem it_sum (M : List Mb) (a b : Nat) (k : Int) : itN M (a + b) k = itN M b (itN M a k) := by
  rcases it_add M a b k with h | ⟨_, rfl, h⟩
  · exact h
  · rw [h]; rfl
/-- More places than there are: one comes twice. -/
theorem twice : ∀ (n m : Nat) (f : Nat → Nat), n < m → (∀ j, j < m → f j < n) → ∃ a b, a < b ∧ b < m ∧ f a = f b
  | 0, m, f, hm, hf => by have := hf 0 hm; omega
  | n + 1, 0, f, hm, hf => by omega
  | n + 1, m + 1, f, hm, hf => by
    by_cases h : ∃ j, j < m ∧ f j = f m
    · obtain ⟨j, h1, h2⟩ := h
      exact ⟨j, m, h1, by omega, h2⟩
    · have hne : ∀ j, j < m → f j ≠ f m := fun j hj e => h ⟨j, hj, e⟩
      have hl := hf m (by omega)
      obtain ⟨a, b, h1, h2, h3⟩ := twice n m (fun j => if f m < f j then f j - 1 else f j) (by omega) (fun j hj => by
        have h1 := hne j hj
        have h2 := hf j (by omega)
        show (if f m < f j then f j - 1 else f j) < n
        split <;> omega)
      refine ⟨a, b, h1, by omega, ?_⟩
      have ha := hne a (by omega)
      have hb := hne b h2
      have h3 : (if f m < f a then f a - 1 else f a) = if f m < f b then f b - 1 else f b := h3
      split at h3 <;> split at h3 <;> omega
theorem it_range {M : List Mb} (hs : ∀ x : Nat, x < M.length → -1 ≤ M[x]!.sub ∧ M[x]!.sub < M.length) : ∀ (j : Nat) (k : Int), -1 ≤ k → k < M.length → -1 ≤ itN M j k ∧ itN M j k < M.length
  | 0, k, h1, h2 => ⟨h1, h2⟩
  | j + 1, k, h1, h2 => by
    unfold itN
    by_cases hk : k < 0
    · rw [if_pos hk]; omega
    · rw [if_neg hk]
      obtain ⟨x, rfl⟩ : ∃ x : Nat, k = (x : Int) := ⟨k.toNat, by omega⟩
      rw [Int.toNat_natCast]
      have := hs x (by omega)
      exact it_range hs j _ this.1 this.2
/-- A chain ends. -/
theorem it_ends {M : List Mb} (h : OkM M) (k : Int) (h1 : -1 ≤ k) (h2 : k < M.length) : itN M M.length k < 0 := by
  by_cases hz : itN M M.length k < 0
  · exact hz
  exfalso
  have hpos : ∀ j, j < M.length + 1 → 0 ≤ itN M j k := by
    intro j hj
    by_cases hn : itN M j k < 0
    · exfalso; apply hz
      have e := it_sum M j (M.length - j) k
      rw [show j + (M.length - j) = M.length by omega] at e
      rw [e]
      have hr := it_range h.sub j k h1 h2
      rw [show itN M j k = -1 by omega, it_neg]; omega
    · omega
  obtain ⟨a, b, h3, h4, h5⟩ := twice M.length (M.length + 1) (fun j => (itN M j k).toNat) (by omega) (fun j hj => by
    have := hpos j hj
    have := it_range h.sub j k h1 h2
    show (itN M j k).toNat < M.length
    omega)
  have h5 : (itN M a k).toNat = (itN M b k).toNat := h5
  have ha := hpos a (by omega)
  have hb := hpos b h4
  have hra := it_range h.sub a k h1 h2
  obtain ⟨x, hx⟩ : ∃ x : Nat, itN M a k = (x : Int) := ⟨(itN M a k).toNat, by omega⟩
  have e := it_sum M a (b - a) k
  rw [show a + (b - a) = b by omega, hx] at e
  refine h.ring x (by omega) (b - a - 1) (by omega) ?_
  rw [show b - a - 1 + 1 = b - a by omega, ← e]
  omega
theorem chR_of {M : List Mb} (hs : ∀ x : Nat, x < M.length → -1 ≤ M[x]!.sub ∧ M[x]!.sub < M.length) : ∀ (n : Nat) (k : Int), -1 ≤ k → k < M.length → itN M n k < 0 → ChR M k (chL M n k)
  | 0, k, _, _, h => h
  | n + 1, k, h1, h2, h => by
    unfold itN at h
    unfold chL
    by_cases hk : k < 0
    · rw [if_pos hk]; exact hk
    · rw [if_neg hk] at h ⊢
      obtain ⟨x, rfl⟩ : ∃ x : Nat, k = (x : Int) := ⟨k.toNat, by omega⟩
      rw [Int.toNat_natCast] at h ⊢
      have := hs x (by omega)
      exact ⟨rfl, by omega, chR_of hs n _ this.1 this.2 h⟩
theorem chR {M : List Mb} (h : OkM M) (k : Int) (h1 : -1 ≤ k) (h2 : k < M.length) : ChR M k (chain M k) := chR_of h.sub _ k h1 h2 (it_ends h k h1 h2)
theorem chR_one {M : List Mb} : ∀ {c d : List Nat} {k : Int}, ChR M k c → ChR M k d → c = d
  | [], [], _, _, _ => rfl
  | [], x :: r, k, h, ⟨h2, _⟩ => by have h : k < 0 := h; omega
  | x :: r, [], k, ⟨h2, _⟩, h => by have h : k < 0 := h; omega
  | x :: r, y :: s, k, ⟨h1, _, h3⟩, ⟨k1, _, k3⟩ => by
    obtain rfl : x = y := by omega
    rw [chR_one h3 k3]
theorem chR_lt {M : List Mb} : ∀ {c : List Nat} {k : Int}, ChR M k c → ∀ x ∈ c, x < M.length
  | [], _, _, _, hx => nomatch hx
  | y :: r, k, ⟨_, h2, h3⟩, x, hx => by
    rcases List.mem_cons.1 hx with rfl | hx
    · exact h2
    · exact chR_lt h3 x hx
theorem chL_len (M : List Mb) : ∀ (n : Nat) (k : Int), (chL M n k).length ≤ n
  | 0, _ => Nat.le_refl _
  | n + 1, k => by
    unfold chL
    split
    · exact Nat.zero_le _
    · rw [List.length_cons]; have := chL_len M n M[k.toNat]!.sub; omega
theorem chain_len (M : List Mb) (k : Int) : (chain M k).length ≤ M.length := chL_len M _ k
/-- Who holds a role: their places. -/
def holdB (m : Mb) (r : Key) : Bool := hasB (m.roles.map (·.toList)) r
def hold (M : List Mb) (r : Key) : List Nat := (List.range M.length).filter fun i => holdB M[i]! r
def holdK (M : List Mb) (r : Key) (k : Nat) : List Nat := (List.range k).filter fun i => holdB M[i]! r
theorem holdK_succ (M : List Mb) (r : Key) (k : Nat) : holdK M r (k + 1) = holdK M r k ++ if holdB M[k]! r then [k] else [] := by
  unfold holdK
  rw [List.range_succ, List.filter_append]
  congr 1
  rw [List.filter_cons, List.filter_nil]
theorem holdK_len (M : List Mb) (r : Key) (k : Nat) : (holdK M r k).length ≤ k := by
  unfold holdK
  have := List.length_filter_le (fun i => holdB M[i]! r) (List.range k)
  rwa [List.length_range] at this
/-- The names of some places. -/
def nmL (M : List Mb) (l : List Nat) : List ByteArray := l.map fun i => M[i]!.name
/-- Who stands for the one at a place. -/
def forL (M : List Mb) (k : Int) : ByteArray := match (chain M k).find? (fun i => !M[i]!.away) with
  | some i => M[i]!.name
  | none => ByteArray.empty
/-- Who comes some steps on. -/
def nextL (M : List Mb) (k : Int) (s : Int) : ByteArray := match (chain M k)[min s.toNat ((chain M k).length - 1)]? with
  | some i => M[i]!.name
  | none => ByteArray.empty
/-- May the one at a place do what a role does? -/
def ableB (M : List Mb) (r : Key) (i : Nat) : Bool := (hold M r).any (fun h => (chain M h).contains i) && !M[i]!.away
def ableL (M : List Mb) (r : Key) : List Nat := (List.range M.length).filter (ableB M r)
/-- One is away, or here. -/
def setA (M : List Mb) (i : Nat) (a : Bool) : List Mb := M.set i { M[i]! with away := a }
noncomputable def plF (M : List Mb) : Lit → Option Nat := firstOf (M.map fun m => litS m.name)
structure SA where
  ma : Option Addr
  mc : Nat
  pb : Nat
structure StI (w : World) (sb : Nat) (A : SA) (M : List Mb) : Prop where
  box : w.heap[sb]? = some (.cells #[.slice A.ma M.length A.mc, .map (some A.pb)] 68 (0, 0))
  row : ∃ B, w.ownsRow B 72 4 (.slice A.ma M.length A.mc) M.length (M.flatMap mbC)
  roles : ∀ m ∈ M, ∃ B, w.ownsRow B 9 1 (.slice m.ra m.roles.length m.rc) m.roles.length (m.roles.map Value.string)
  map : MapFn w Try.prog 9 3 A.pb M.length (plF M)
theorem own_keep {w w' : World} {B e z n : Nat} {v : Value} {xs : List Value} (h : w.ownsRow B e z v n xs) (hg : ∀ g, v.ownBlock = some g → w'.heap[g]? = w.heap[g]?) : w'.ownsRow B e z v n xs := by
  refine ⟨h.1, ?_⟩
  rcases h.2 with h | ⟨g, cap, cur, h1, h2, h3, h4⟩
  · exact .inl h
  · exact .inr ⟨g, cap, cur, h1, h2, (hg g (by rw [h1]; rfl)).trans h3, h4⟩
theorem own_block {w : World} {B e z n g : Nat} {v : Value} {xs : List Value} (h : w.ownsRow B e z v n xs) (hg : v.ownBlock = some g) : B ≤ g ∧ g < w.heap.size := h.lt g hg
theorem StI.lt {w : World} {sb : Nat} {A : SA} {M : List Mb} (h : StI w sb A M) : sb < w.heap.size := blk_lt h.box
/-- What lay there when it was made lies there. -/
theorem StI.keep {w w' : World} {sb : Nat} {A : SA} {M : List Mb} (h : StI w sb A M) (hk : ∀ k, k < w.heap.size → w'.heap[k]? = w.heap[k]?) : StI w' sb A M where
  box := (hk _ h.lt).trans h.box
  row := by obtain ⟨B, hr⟩ := h.row; exact ⟨B, own_keep hr (fun g hg => hk g (own_block hr hg).2)⟩
  roles := fun m hm => by obtain ⟨B, hr⟩ := h.roles m hm; exact ⟨B, own_keep hr (fun g hg => hk g (own_block hr hg).2)⟩
  map := h.map.block (hk _ h.map.lt)
theorem StI.below {w w' : World} {sb : Nat} {A : SA} {M : List Mb} (h : StI w sb A M) (hb : Below w.heap.size w w') : StI w' sb A M := h.keep hb.block
theorem StI.c0 {w : World} {sb : Nat} {A : SA} {M : List Mb} (h : StI w sb A M) : w.cell? ⟨sb, 0, none⟩ = some (.slice A.ma M.length A.mc) := cell_blk (i := 0) h.box rfl
theorem StI.c1 {w : World} {sb : Nat} {A : SA} {M : List Mb} (h : StI w sb A M) : w.cell? ⟨sb, 1, none⟩ = some (.map (some A.pb)) := cell_blk (i := 1) h.box rfl
/-- The cells of a member. -/
theorem StI.at_ {w : World} {sb : Nat} {A : SA} {M : List Mb} (h : StI w sb A M) {i : Nat} (hi : i < M.length) :
    ∃ b off, A.ma = some ⟨b, off, none⟩ ∧ b < w.heap.size ∧ w.cell? ⟨b, off + i * 4, none⟩ = some (.string M[i]!.name) ∧ w.cell? ⟨b, off + i * 4 + 1, none⟩ = some (.slice M[i]!.ra M[i]!.roles.length M[i]!.rc) ∧ w.cell? ⟨b, off + i * 4 + 2, none⟩ = some (.int .i64 M[i]!.sub) ∧ w.cell? ⟨b, off + i * 4 + 3, none⟩ = some (.bool M[i]!.away) := by
  obtain ⟨B, hr⟩ := h.row
  obtain ⟨b, off, h1, h2, h3⟩ := (Row.of_own hr).at_ (k := 4) (fun _ => rfl) (by omega) hi
  have k0 := h3 0 _ rfl
  rw [Nat.add_zero] at k0
  exact ⟨b, off, h1, h2, k0, h3 1 _ rfl, h3 2 _ rfl, h3 3 _ rfl⟩
theorem StI.role {w : World} {sb : Nat} {A : SA} {M : List Mb} (h : StI w sb A M) {i : Nat} (hi : i < M.length) : Row w M[i]!.ra (M[i]!.roles.map Value.string) := by
  obtain ⟨B, hr⟩ := h.roles _ (mem_at hi)
  exact Row.of_own hr
theorem first_nm {α : Type} (nm : α → ByteArray) (l : List α) (s : ByteArray) : firstOf (l.map fun x => litS (nm x)) (litS s) = if hasB (l.map fun x => (nm x).toList) s.toList then some ((l.map fun x => (nm x).toList).idxOf s.toList) else none := by
  have h := firstOf_map (fun k : Key => Lit.string k) s.toList (l.map fun x => (nm x).toList) (fun x _ e => by injection e)
  have e1 : (l.map fun x => (nm x).toList).map (fun k : Key => Lit.string k) = l.map fun x => litS (nm x) := by
    rw [List.map_map]
    refine List.map_congr_left fun x _ => ?_
    simp only [Function.comp, litS, Lib.toList_data]
  have e2 : Lit.string s.toList = litS s := by rw [litS, Lib.toList_data]
  rw [e1, e2] at h
  exact h
theorem StI.look {w : World} {sb : Nat} {A : SA} {M : List Mb} (h : StI w sb A M) {s : ByteArray} (hs : s.size ≤ 140737488351232) :
    ∃ q : Nat, (Instr.lookup 65 (.map (some A.pb)) (.string s) true).run Try.prog w = .ok (.tuple #[.int .i64 (q : Int), .bool (hasB (nms M) s.toList)]) w ∧ (hasB (nms M) s.toList = true → placeL M s.toList = (q : Int)) := by
  have h1 := h.map.look_ok lawS Try.underlying65 Try.underlying3 (Try.zeroValue3 w) (keyS hs)
  have e := first_nm Mb.name M s
  rw [plF, e] at h1
  unfold placeL nms
  cases hh : hasB (M.map fun x => x.name.toList) s.toList with
  | true => rw [hh] at h1; exact ⟨_, h1, fun _ => by rw [if_pos rfl, if_pos rfl]; rfl⟩
  | false => rw [hh] at h1; exact ⟨_, h1, fun e => by cases e⟩
theorem place_range {M : List Mb} (k : Key) : -1 ≤ placeL M k ∧ placeL M k < M.length := by
  unfold placeL
  cases hh : hasB (nms M) k with
  | false => exact ⟨by simp, by simp; omega⟩
  | true =>
    rw [if_pos rfl]
    have := List.idxOf_lt_length_iff.2 (List.contains_iff_mem.1 hh)
    unfold nms at this ⊢
    rw [List.length_map] at this
    omega
end Go.Proofs.Ytahhhhacoigpmaa.SF
