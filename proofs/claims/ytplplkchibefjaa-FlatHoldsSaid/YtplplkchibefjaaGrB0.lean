/-
  What a loop over slices.Backward that fills a map keeps, whatever the elements are.
-/
import Derived.Test.YtplplkchibefjaaGrA
import Derived.RangeFuncNested
import Derived.RangeFuncBound
import Derived.RangeFuncCalls
import Derived.RangeFuncLeaves
import Derived.Shelf.Abstract
import Derived.Shelf.AbstractIn
import Derived.Shelf.RegionOpen
import Derived.WalkKit
import Derived.OwnWalkIn
import Derived.TacticsInMore
import Derived.LoopNIn
import Derived.LoopIn
import Derived.Outline
import Derived.Lib.SmallJoins
import Derived.ChangeMaps5
namespace Go.Proofs.Ytplplkchibefjaa
open Go.RowKit Go.Shelf Go.ChangeShapes Go.ChangeMaps

attribute [local go_sem] Oper.semAt_some

/-- Below a place, all but one block is as it was. -/
def KpM (n₀ m : Nat) (W W' : World) : Prop := ∀ k, k < n₀ → k ≠ m → W'.heap[k]? = W.heap[k]?
theorem KpM.trans {n₀ m : Nat} {A B C : World} (h : KpM n₀ m A B) (k : KpM n₀ m B C) : KpM n₀ m A C := fun i h1 h2 => (k i h1 h2).trans (h i h1 h2)
theorem KpM.cell {n₀ m : Nat} {W W' : World} (h : KpM n₀ m W W') {p : Addr} (h1 : p.block < n₀) (h2 : p.block ≠ m) : W'.cell? p = W.cell? p := World.cell?_of_block (w := W) (h p.block h1 h2)

def litS (s : ByteArray) : Lit := .string s.data.toList
theorem lawS : Maps.Keyed Try.prog 9 := Maps.string_keyed Try.underlying9
theorem keyS {s : ByteArray} (h : s.size ≤ 140737488351232) : keyOf Try.prog 9 (.string s) = some (litS s) := WideMaps.keyOf_string_mk Try.underlying9 (by unfold maxLen; omega)
/-- A relation's key: its kind, and the two that it names. -/
noncomputable def rlit (k : RKey) : Lit := (DataW.agg [.lit (.int .i64 k.1), .lit (.string k.2.1), .lit (.string k.2.2), .lit (.int .i64 0)] : DataW Unit).asKey
theorem progLaid : laidOutB Try.prog = true := by kernel_rfl
theorem rowR : (53 : TypeId) < Try.prog.types.size := of_decide_eq_true (by kernel_rfl)
theorem deepR3 : Try.prog.keyTypeAt 3 53 = true := by kernel_rfl
theorem deepR : Try.prog.keyTypeAt (Try.prog.types.size + 1) 53 = true := by kernel_rfl
theorem cellsR : Try.prog.cellsOf 53 = 4 := by kernel_rfl
theorem formR (a b c d : Value) : (Value.agg #[a, b, c, d]).formed Try.prog 53 = true := by simp [Value.formed, Try.underlying53, cellsR]
theorem lawR_of {P : Program} (hl : laidOutB P = true) {k : TypeId} (hrow : k < P.types.size) (hk : P.keyTypeAt 3 k = true) {fs : Array Field} (h : P.underlying k = some (.struct fs)) : WideMaps.KeyLaw P k :=
  deep_law_laid hl (m := 3) (by omega) hrow hk (by rw [h])
theorem keyOf_of {P : Program} {w : World} {k : TypeId} (hk : P.keyTypeAt (P.types.size + 1) k = true) {fs : Array Field} (h : P.underlying k = some (.struct fs)) {v : Value} (hf : v.formed P k = true) {d : DataW Unit} {ps : List MemPlace}
    (hd : DataW.Trod (fun _ => ()) P w 0 (fun _ => false) true k v d ps) : keyOf P k v = some d.asKey := (keyOf_asKey hk (by rw [h]) hf hd).1
theorem lawR : Maps.Keyed Try.prog 53 := Maps.Keyed.of_law (lawR_of progLaid rowR deepR3 Try.underlying53)
structure OkR (r : Rl) : Prop where
  src : r.src.size ≤ 140737488351232
  dst : r.dst.size ≤ 140737488351232
  kind : (Lit.int .i64 r.kind).wf = true
theorem keyR {r : Rl} (h : OkR r) : keyOf Try.prog 53 (.agg #[.int .i64 r.kind, .string r.src, .string r.dst, .int .i64 0]) = some (rlit (rkey r)) := by
  have hi : ∀ n : Int, (Lit.int .i64 n).wf = true → ∃ m, DataW.trod (fun _ => ()) Try.prog (default : World) 0 (fun _ => false) true m 3 [.int .i64 n] = some (.lit (.int .i64 n), []) := fun n hn => by
    obtain ⟨m, hm⟩ := shut_int (enc := fun _ => ()) (P := Try.prog) (w := default) (base := 0) (spare := fun _ => false) (held := true) Try.underlying3 hn
    exact ⟨m, hm⟩
  have hst : ∀ s : ByteArray, s.size ≤ 140737488351232 → ∃ m, DataW.trod (fun _ => ()) Try.prog (default : World) 0 (fun _ => false) true m 9 [.string s] = some (.lit (.string s.toList), []) := fun s hs => by
    obtain ⟨m, hm⟩ := shut_string (enc := fun _ => ()) (P := Try.prog) (w := default) (base := 0) (sp := fun _ => false) (held := true) Try.underlying9 (s := s) (by unfold maxLen; omega)
    rw [Lib.toList_data]
    exact ⟨m, hm⟩
  have := Joins.shut_agg4 (enc := fun _ => ()) (P := Try.prog) (w := default) (base := 0) (spare := fun _ => false) (held := true) Try.underlying53 (by kernel_rfl) cellsR (hi _ h.kind) (hst _ h.src) (hst _ h.dst) (hi 0 (by decide))
  exact keyOf_of deepR Try.underlying53 (formR _ _ _ _) this
theorem mkS (n : Int) (w : World) : (Instr.makeMap 117 (some (.int .i64 n))).run Try.prog w = .ok (.map (some w.heap.size)) (w.alloc (.map #[] 0)) := by
  simp [Instr.makeMap, run_underlying Try.underlying117, asInt, asIntOf, Result.andThen]
theorem mkR (n : Int) (w : World) : (Instr.makeMap 118 (some (.int .i64 n))).run Try.prog w = .ok (.map (some w.heap.size)) (w.alloc (.map #[] 0)) := by
  simp [Instr.makeMap, run_underlying Try.underlying118, asInt, asIntOf, Result.andThen]
theorem cell_new1 (w : World) (v : Value) (t : TypeId) : (w.alloc (.cells #[v] t)).cell? ⟨w.heap.size, 0, none⟩ = some v := by
  have h := (World.alloc_heap_new w (.cells #[v] t))
  unfold World.cell?
  simp only
  rw [h]
  rfl
theorem cell_old (w : World) (o : Obj) {a : Addr} (h : a.block < w.heap.size) {u : Option Value} (hu : w.cell? a = u) : (w.alloc o).cell? a = u := (World.cell?_alloc_lt _ _ _ h).trans hu

/-- Between two rounds: the function and the map are where they were; what the map holds. -/
def FI (K : TypeId) (w : World) (kf : Value) {n : Nat} (f : Fin n → Lit) (pre : List (Fin n)) (W : World) : Prop :=
  (W.cell? ⟨w.heap.size, 0, none⟩ = some kf ∧ W.cell? ⟨w.heap.size + 2, 0, none⟩ = some (.map (some (w.heap.size + 1))) ∧ MapFn W Try.prog K 3 (w.heap.size + 1) pre.length (lastF f pre)) ∧ (Below w.heap.size w W ∧ w.heap.size + 4 ≤ W.heap.size)
theorem FI.own {K : TypeId} {w : World} {kf : Value} {n : Nat} {f : Fin n → Lit} {B : Nat} (hB : B = w.heap.size + 4) : OwnFrom B (FI K w kf f) := by
  subst hB
  exact OwnFrom.and (fun s A' B' row hs hg hr => ⟨cell_kept hs.1 hg (fun r e => (hr r e).2), cell_kept hs.2.1 hg (fun r e => (hr r e).2), hs.2.2.block (hg.block _ hs.2.2.lt (fun e => by have := (hr _ e.symm).1; omega))⟩) (OwnFrom.and (ownFrom_below (Nat.le_refl _) (by omega)) (fun _ _ _ _ hs hg _ => Nat.le_trans hs hg.size))
theorem FI.alloc {K : TypeId} {w W : World} {kf : Value} {n : Nat} {f : Fin n → Lit} {pre : List (Fin n)} (h : FI K w kf f pre W) (o : Obj) : FI K w kf f pre (W.alloc o) := (FI.own rfl).alloc o h
theorem FI.step {K : TypeId} {w W V w1 : World} {kf : Value} {n : Nat} {f : Fin n → Lit} {pre : List (Fin n)} {x : Fin n} {D : DataW Unit} {kl : Lit} {B : Nat} (hB : B = w.heap.size + 4) (h : FI K w kf f pre W) (hV : Below W.heap.size W V) (hKO : KeepsOthers W V)
    (hown : W.ownsMap Try.prog K (plainElem Try.prog 3) (w.heap.size + 1) pre.length D) (hf : ∀ l, WideAt.IsKeyLit l → Maps.has D l = (lastF f pre l).isSome ∧ D.atKey l (.lit (.int .i64 0)) = .lit (.int .i64 (((lastF f pre l).getD 0 : Nat) : Int)))
    (hown1 : w1.ownsMap Try.prog K (plainElem Try.prog 3) (w.heap.size + 1) (pre.length + 1) (D.put kl (.lit (.int .i64 (x.val : Int))))) (hg : V.grownBy w1 (some (w.heap.size + 1))) (hkl : f x = kl) (hk : WideAt.IsKeyLit kl) (a : Act) :
    ownPostG B (KpM (w.heap.size + 4) (w.heap.size + 1)) (FI K w kf f) (fun _ _ _ => False) (pre ++ [x]) W Exit.normal a w1 := by
  subst hB
  have hz := h.2.2
  have hgs := hg.size
  have hVs := hV.size
  have hblk : ∀ k, k < W.heap.size → k ≠ w.heap.size + 1 → w1.heap[k]? = W.heap[k]? := fun k h1 h2 =>
    (hg.block k (by omega) (fun e => h2 (by injection e))).trans (hV.block k h1)
  refine ⟨(hKO.from _).trans (KeepsFrom.of_grownBy hg (fun j e => by cases e; omega)), fun k hk hm => hblk k (by omega) hm, ⟨?_, ?_, ?_⟩, ?_, by omega⟩
  · exact (World.cell?_of_block (w := W) (a := ⟨w.heap.size, 0, none⟩) (hblk w.heap.size (by omega) (by omega))).trans h.1.1
  · exact (World.cell?_of_block (w := W) (a := ⟨w.heap.size + 2, 0, none⟩) (hblk (w.heap.size + 2) (by omega) (by omega))).trans h.1.2.1
  · rw [lastF_snoc, List.length_append, hkl]
    exact MapFn.of_own hf hown.isMap hk hown1
  · exact (h.2.1.trans (hV.mono (by omega))).grown hg (by omega) (fun k e => by cases e; omega)
theorem FI.done {α : Type} {K : TypeId} {w W : World} {kf : Value} {key : α → Lit} {l : List α} {D : Nat} {o' : Obj} (hD : w.heap.size + 4 ≤ D) (h : FI K w kf (fun i : Fin l.length => key l[i]) (List.finRange l.length).reverse W) (hK : W.heap[D]? = some (.deferred (some []))) :
    MapFn (W.putObj D o') Try.prog K 3 (w.heap.size + 1) l.length (firstOf (l.map key)) ∧ Below w.heap.size w (W.putObj D o') ∧ w.heap.size ≤ w.heap.size + 1 := by
  have h' := (FI.own (K := K) (w := w) (kf := kf) (f := fun i : Fin l.length => key l[i]) rfl).putObj o' h hD hK rfl
  have hm := h'.1.2.2
  rw [lastF_all, List.length_reverse, List.length_finRange] at hm
  exact ⟨hm, h'.2.1, by omega⟩
end Go.Proofs.Ytplplkchibefjaa
