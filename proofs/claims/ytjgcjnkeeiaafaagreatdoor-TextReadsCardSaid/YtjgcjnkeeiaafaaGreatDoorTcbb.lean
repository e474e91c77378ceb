/-
  What a loop over slices.Backward that fills a map keeps, whatever the elements are. Contracts of graph.isName, longest, areNames, repeats, and of the library's searches that they and Check use. The looker in memory; contracts of its small methods and of its look at a group. Contracts of the looker's looks at groups.
-/
import Derived.Test.YtjgcjnkeeiaafaaGreatDoorTcba
import Derived.RangeFuncNested
import Derived.RangeFuncBound
import Derived.RangeFuncCalls
import Derived.RangeFuncLeaves
import Derived.Shelf.Abstract
import Derived.Shelf.AbstractIn
import Derived.Shelf.RegionOpen
import Derived.WalkKit
import Derived.OwnWalkIn
import Derived.TacticsInMore
import Derived.LoopNIn
import Derived.LoopIn
import Derived.Outline
import Derived.Lib.SmallJoins
import Derived.ChangeMaps5
import Derived.BigQuiet
import Derived.Deep.QuietTactic
import Derived.RegionTactic
import Derived.StillTailTactics
namespace Go.Proofs.YtjgcjnkeeiaafaaGreatDoor
open Go.RowKit Go.Shelf Go.ChangeShapes Go.ChangeMaps
attribute [local go_sem] Oper.semAt_some
/-- Below a place, all but one block is as it was. -/
def KpM (n₀ m : Nat) (W W' : World) : Prop := ∀ k, k < n₀ → k ≠ m → W'.heap[k]? = W.heap[k]?
theorem KpM.trans {n₀ m : Nat} {A B C : World} (h : KpM n₀ m A B) (k : KpM n₀ m B C) : KpM n₀ m A C := fun i h1 h2 => (k i h1 h2).trans (h i h1 h2)
theorem KpM.cell {n₀ m : Nat} {W W' : World} (h : KpM n₀ m W W') {p : Addr} (h1 : p.block < n₀) (h2 : p.block ≠ m) : W'.cell? p = W.cell? p := World.cell?_of_block (w := W) (h p.block h1 h2)
def litS (s : ByteArray) : Lit := .string s.data.toList
theorem lawS : Maps.Keyed Tryz.prog 9 := Maps.string_keyed Tryz.underlying9
theorem keyS {s : ByteArray} (h : s.size ≤ 140737488351232) : keyOf Tryz.prog 9 (.string s) = some (litS s) := WideMaps.keyOf_string_mk Tryz.underlying9 (by unfold maxLen; omega)
/-- A relation's key: its kind, and the two that it names. -/
noncomputable def rlit (k : RKey) : Lit := (DataW.agg [.lit (.int .i64 k.1), .lit (.string k.2.1), .lit (.string k.2.2), .lit (.int .i64 0)] : DataW Unit).asKey
theorem progLaid : laidOutB Tryz.prog = true := by kernel_rfl
theorem rowR : (42 : TypeId) < Tryz.prog.types.size := of_decide_eq_true (by kernel_rfl)
theorem deepR3 : Tryz.prog.keyTypeAt 3 42 = true := by kernel_rfl
theorem deepR : Tryz.prog.keyTypeAt (Tryz.prog.types.size + 1) 42 = true := by kernel_rfl
theorem cellsR : Tryz.prog.cellsOf 42 = 4 := by kernel_rfl
theorem formR (a b c d : Value) : (Value.agg #[a, b, c, d]).formed Tryz.prog 42 = true := by simp [Value.formed, Tryz.underlying42, cellsR]
theorem lawR_of {P : Program} (hl : laidOutB P = true) {k : TypeId} (hrow : k < P.types.size) (hk : P.keyTypeAt 3 k = true) {fs : Array Field} (h : P.underlying k = some (.struct fs)) : WideMaps.KeyLaw P k :=
  deep_law_laid hl (m := 3) (by omega) hrow hk (by rw [h])
theorem keyOf_of {P : Program} {w : World} {k : TypeId} (hk : P.keyTypeAt (P.types.size + 1) k = true) {fs : Array Field} (h : P.underlying k = some (.struct fs)) {v : Value} (hf : v.formed P k = true) {d : DataW Unit} {ps : List MemPlace}
    (hd : DataW.Trod (fun _ => ()) P w 0 (fun _ => false) true k v d ps) : keyOf P k v = some d.asKey := (keyOf_asKey hk (by rw [h]) hf hd).1
theorem lawR : Maps.Keyed Tryz.prog 42 := Maps.Keyed.of_law (lawR_of progLaid rowR deepR3 Tryz.underlying42)
structure OkR (r : Rl) : Prop where
  src : r.src.size ≤ 140737488351232
  dst : r.dst.size ≤ 140737488351232
  kind : (Lit.int .i64 r.kind).wf = true
theorem keyR {r : Rl} (h : OkR r) : keyOf Tryz.prog 42 (.agg #[.int .i64 r.kind, .string r.src, .string r.dst, .int .i64 0]) = some (rlit (rkey r)) := by
  have hi : ∀ n : Int, (Lit.int .i64 n).wf = true → ∃ m, DataW.trod (fun _ => ()) Tryz.prog (default : World) 0 (fun _ => false) true m 3 [.int .i64 n] = some (.lit (.int .i64 n), []) := fun n hn => by
    obtain ⟨m, hm⟩ := shut_int (enc := fun _ => ()) (P := Tryz.prog) (w := default) (base := 0) (spare := fun _ => false) (held := true) Tryz.underlying3 hn
    exact ⟨m, hm⟩
  have hst : ∀ s : ByteArray, s.size ≤ 140737488351232 → ∃ m, DataW.trod (fun _ => ()) Tryz.prog (default : World) 0 (fun _ => false) true m 9 [.string s] = some (.lit (.string s.toList), []) := fun s hs => by
    obtain ⟨m, hm⟩ := shut_string (enc := fun _ => ()) (P := Tryz.prog) (w := default) (base := 0) (sp := fun _ => false) (held := true) Tryz.underlying9 (s := s) (by unfold maxLen; omega)
    rw [Lib.toList_data]
    exact ⟨m, hm⟩
  have := Joins.shut_agg4 (enc := fun _ => ()) (P := Tryz.prog) (w := default) (base := 0) (spare := fun _ => false) (held := true) Tryz.underlying42 (by kernel_rfl) cellsR (hi _ h.kind) (hst _ h.src) (hst _ h.dst) (hi 0 (by decide))
  exact keyOf_of deepR Tryz.underlying42 (formR _ _ _ _) this
theorem mkS (n : Int) (w : World) : (Instr.makeMap 94 (some (.int .i64 n))).run Tryz.prog w = .ok (.map (some w.heap.size)) (w.alloc (.map #[] 0)) := by
  simp [Instr.makeMap, run_underlying Tryz.underlying94, asInt, asIntOf, Result.andThen]
theorem mkR (n : Int) (w : World) : (Instr.makeMap 95 (some (.int .i64 n))).run Tryz.prog w = .ok (.map (some w.heap.size)) (w.alloc (.map #[] 0)) := by
  simp [Instr.makeMap, run_underlying Tryz.underlying95, asInt, asIntOf, Result.andThen]
theorem cell_new1 (w : World) (v : Value) (t : TypeId) : (w.alloc (.cells #[v] t)).cell? ⟨w.heap.size, 0, none⟩ = some v := by
  have h := (World.alloc_heap_new w (.cells #[v] t))
  unfold World.cell?
  simp only
  rw [h]
  rfl
theorem cell_old (w : World) (o : Obj) {a : Addr} (h : a.block < w.heap.size) {u : Option Value} (hu : w.cell? a = u) : (w.alloc o).cell? a = u := (World.cell?_alloc_lt _ _ _ h).trans hu
/-- Between two rounds: the function and the map are where they were; what the map holds. -/
def FI (K : TypeId) (w : World) (kf : Value) {n : Nat} (f : Fin n → Lit) (pre : List (Fin n)) (W : World) : Prop :=
  (W.cell? ⟨w.heap.size, 0, none⟩ = some kf ∧ W.cell? ⟨w.heap.size + 2, 0, none⟩ = some (.map (some (w.heap.size + 1))) ∧ MapFn W Tryz.prog K 3 (w.heap.size + 1) pre.length (lastF f pre)) ∧ (Below w.heap.size w W ∧ w.heap.size + 4 ≤ W.heap.size)
theorem FI.own {K : TypeId} {w : World} {kf : Value} {n : Nat} {f : Fin n → Lit} {B : Nat} (hB : B = w.heap.size + 4) : OwnFrom B (FI K w kf f) := by
  subst hB
  exact OwnFrom.and (fun s A' B' row hs hg hr => ⟨cell_kept hs.1 hg (fun r e => (hr r e).2), cell_kept hs.2.1 hg (fun r e => (hr r e).2), hs.2.2.block (hg.block _ hs.2.2.lt (fun e => by have := (hr _ e.symm).1; omega))⟩) (OwnFrom.and (ownFrom_below (Nat.le_refl _) (by omega)) (fun _ _ _ _ hs hg _ => Nat.le_trans hs hg.size))
theorem FI.alloc {K : TypeId} {w W : World} {kf : Value} {n : Nat} {f : Fin n → Lit} {pre : List (Fin n)} (h : FI K w kf f pre W) (o : Obj) : FI K w kf f pre (W.alloc o) := (FI.own rfl).alloc o h
theorem FI.step {K : TypeId} {w W V w1 : World} {kf : Value} {n : Nat} {f : Fin n → Lit} {pre : List (Fin n)} {x : Fin n} {D : DataW Unit} {kl : Lit} {B : Nat} (hB : B = w.heap.size + 4) (h : FI K w kf f pre W) (hV : Below W.heap.size W V) (hKO : KeepsOthers W V)
    (hown : W.ownsMap Tryz.prog K (plainElem Tryz.prog 3) (w.heap.size + 1) pre.length D) (hf : ∀ l, WideAt.IsKeyLit l → Maps.has D l = (lastF f pre l).isSome ∧ D.atKey l (.lit (.int .i64 0)) = .lit (.int .i64 (((lastF f pre l).getD 0 : Nat) : Int)))
    (hown1 : w1.ownsMap Tryz.prog K (plainElem Tryz.prog 3) (w.heap.size + 1) (pre.length + 1) (D.put kl (.lit (.int .i64 (x.val : Int))))) (hg : V.grownBy w1 (some (w.heap.size + 1))) (hkl : f x = kl) (hk : WideAt.IsKeyLit kl) (a : Act) :
    ownPostG B (KpM (w.heap.size + 4) (w.heap.size + 1)) (FI K w kf f) (fun _ _ _ => False) (pre ++ [x]) W Exit.normal a w1 := by
  subst hB
  have hz := h.2.2
  have hgs := hg.size
  have hVs := hV.size
  have hblk : ∀ k, k < W.heap.size → k ≠ w.heap.size + 1 → w1.heap[k]? = W.heap[k]? := fun k h1 h2 =>
    (hg.block k (by omega) (fun e => h2 (by injection e))).trans (hV.block k h1)
  refine ⟨(hKO.from _).trans (KeepsFrom.of_grownBy hg (fun j e => by cases e; omega)), fun k hk hm => hblk k (by omega) hm, ⟨?_, ?_, ?_⟩, ?_, by omega⟩
  · exact (World.cell?_of_block (w := W) (a := ⟨w.heap.size, 0, none⟩) (hblk w.heap.size (by omega) (by omega))).trans h.1.1
  · exact (World.cell?_of_block (w := W) (a := ⟨w.heap.size + 2, 0, none⟩) (hblk (w.heap.size + 2) (by omega) (by omega))).trans h.1.2.1
  · rw [lastF_snoc, List.length_append, hkl]
    exact MapFn.of_own hf hown.isMap hk hown1
  · exact (h.2.1.trans (hV.mono (by omega))).grown hg (by omega) (fun k e => by cases e; omega)
theorem FI.done {α : Type} {K : TypeId} {w W : World} {kf : Value} {key : α → Lit} {l : List α} {D : Nat} {o' : Obj} (hD : w.heap.size + 4 ≤ D) (h : FI K w kf (fun i : Fin l.length => key l[i]) (List.finRange l.length).reverse W) (hK : W.heap[D]? = some (.deferred (some []))) :
    MapFn (W.putObj D o') Tryz.prog K 3 (w.heap.size + 1) l.length (firstOf (l.map key)) ∧ Below w.heap.size w (W.putObj D o') ∧ w.heap.size ≤ w.heap.size + 1 := by
  have h' := (FI.own (K := K) (w := w) (kf := kf) (f := fun i : Fin l.length => key l[i]) rfl).putObj o' h hD hK rfl
  have hm := h'.1.2.2
  rw [lastF_all, List.length_reverse, List.length_finRange] at hm
  exact ⟨hm, h'.2.1, by omega⟩
end Go.Proofs.YtjgcjnkeeiaafaaGreatDoor

namespace Go.Proofs.YtjgcjnkeeiaafaaGreatDoor
open Go.RowKit Go.Shelf
theorem name_k (s : ByteArray) (w : World) (hs : s.size ≤ 140737488351232) : Calls Tryz.prog 63 #[.string s] w fun e w' => e = .returned (.bool (nameL s.toList)) ∧ w = w' := by
  rw [Lib.toList_data]; exact name_any s w (by omega)
theorem nameK_kw {k : Key} (h : kws.contains k = true) : nameK k = false := by simp only [nameK, h, Bool.not_true, Bool.false_and]
theorem nameK_no {k : Key} (h : kws.contains k = false) : nameK k = nameL k := by simp only [nameK, h, Bool.not_false, Bool.true_and]
set_option maxHeartbeats 1000000 in
theorem isName_any (s : ByteArray) (w : World) (hs : s.size ≤ 140737488351232) : Calls Tryz.prog 75 #[.string s] w fun e w' => e = .returned (.bool (nameK s.toList)) ∧ w = w' := by
  by_cases hc : kws.contains s.toList = true
  · have HN := Lib.hid (nameK_kw hc)
    have hm : s.toList ∈ kws := by simpa using hc
    clear hc
    simp only [kws, List.mem_cons, List.not_mem_nil, or_false] at hm
    rcases hm with h | h | h | h | h | h | h | h | h | h | h | h | h | h | h | h
    all_goals
      go_enter Tryz.func75, Tryz.ntmps75
      go_wp2_with fail
      go_ret
      exact ⟨ret_bool HN.out.symm, rfl⟩
  · have HN := Lib.hid (nameK_no (by simpa using hc))
    have hm : s.toList ∉ kws := by simpa using hc
    clear hc
    simp only [kws, List.mem_cons, List.not_mem_nil, or_false, not_or] at hm
    obtain ⟨h1, h2, h3, h4, h5, h6, h7, h8, h9, h10, h11, h12, h13, h14, h15, h16⟩ := hm
    have e1 := beq_eq_false_iff_ne.2 h1
    have e2 := beq_eq_false_iff_ne.2 h2
    have e3 := beq_eq_false_iff_ne.2 h3
    have e4 := beq_eq_false_iff_ne.2 h4
    have e5 := beq_eq_false_iff_ne.2 h5
    have e6 := beq_eq_false_iff_ne.2 h6
    have e7 := beq_eq_false_iff_ne.2 h7
    have e8 := beq_eq_false_iff_ne.2 h8
    have e9 := beq_eq_false_iff_ne.2 h9
    have e10 := beq_eq_false_iff_ne.2 h10
    have e11 := beq_eq_false_iff_ne.2 h11
    have e12 := beq_eq_false_iff_ne.2 h12
    have e13 := beq_eq_false_iff_ne.2 h13
    have e14 := beq_eq_false_iff_ne.2 h14
    have e15 := beq_eq_false_iff_ne.2 h15
    have e16 := beq_eq_false_iff_ne.2 h16
    clear h1 h2 h3 h4 h5 h6 h7 h8 h9 h10 h11 h12 h13 h14 h15 h16
    go_enter Tryz.func75, Tryz.ntmps75
    go_wp2_with (go_at_call 63; refine (name_k s _ hs).mono ?_; rintro e w' ⟨rfl, rfl⟩)
    go_ret
    exact ⟨ret_bool HN.out.symm, rfl⟩
theorem ret_i64 {a b : Int} (h : a = b) : Ending.returned (.int .i64 a) = .returned (.int .i64 b) := by rw [h]
set_option maxHeartbeats 400000 in
theorem longest_any (k : Int) (w : World) : Calls Tryz.prog 79 #[.int .i64 k] w fun e w' => e = .returned (.int .i64 (longL k)) ∧ w = w' := by
  by_cases h1 : k = 1
  · subst h1
    go_enter Tryz.func79, Tryz.ntmps79
    go_wp2
    go_ret
    exact ⟨rfl, rfl⟩
  · by_cases h2 : k = 2
    · subst h2
      go_enter Tryz.func79, Tryz.ntmps79
      go_wp2
      go_ret
      exact ⟨rfl, rfl⟩
    · have e1 : (k == 1) = false := by simpa using h1
      have e2 : (k == 2) = false := by simpa using h2
      have HL : Hid (longL k = 0) := Lib.hid (by simp [longL, h1, h2])
      clear h1 h2
      go_enter Tryz.func79, Tryz.ntmps79
      go_wp2
      go_ret
      exact ⟨ret_i64 HL.out.symm, rfl⟩
/-- Where the first of some is of which p holds; below 0: nowhere. -/
def idxB {α : Type} (p : α → Bool) (l : List α) : Int := match l.findIdx? p with | some i => (i : Int) | none => -1
theorem idxB_hit {α : Type} [Inhabited α] {p : α → Bool} {l : List α} {k : Nat} (hk : k < l.length) (hp : p l[k]! = true) (h : ∀ j, j < k → p l[j]! = false) : idxB p l = k := by
  have : l.findIdx? p = some k := by
    rw [List.findIdx?_eq_some_iff_getElem]
    refine ⟨hk, by rw [← getElem!_pos l k hk]; exact hp, fun j hj => ?_⟩
    have := h j hj
    rw [getElem!_pos l j (by omega)] at this
    simp [this]
  simp [idxB, this]
theorem idxB_miss {α : Type} [Inhabited α] {p : α → Bool} {l : List α} (h : ∀ j, j < l.length → p l[j]! = false) : idxB p l = -1 := by
  have : l.findIdx? p = none := by
    rw [List.findIdx?_eq_none_iff]
    intro x hx
    obtain ⟨j, hj, rfl⟩ := List.getElem_of_mem hx
    rw [← getElem!_pos l j hj]; exact h j hj
  simp [idxB, this]
theorem idxB_any {α : Type} (p : α → Bool) (l : List α) : decide (0 ≤ idxB p l) = l.any p := by
  unfold idxB
  cases h : l.findIdx? p with
  | none =>
    rw [List.findIdx?_eq_none_iff] at h
    have : l.any p = false := by simpa using h
    simp [this]
  | some i =>
    obtain ⟨hi, hp, _⟩ := List.findIdx?_eq_some_iff_getElem.1 h
    have : l.any p = true := by rw [List.any_eq_true]; exact ⟨_, List.getElem_mem hi, hp⟩
    rw [this]; simp
theorem all_step {α : Type} [Inhabited α] {p : α → Bool} {l : List α} {k : Nat} (h : ∀ j, j < k → p l[j]! = false) (hk : p l[k]! = false) : ∀ j, j < k + 1 → p l[j]! = false := by
  intro j hj
  by_cases e : j = k
  · rw [e]; exact hk
  · exact h j (by omega)
theorem Row.str_at {w : World} {A : Option Addr} {l : List ByteArray} (h : Row w A (l.map Value.string)) {i : Nat} (hi : i < l.length) :
    ∃ b off, A = some ⟨b, off, none⟩ ∧ b < w.heap.size ∧ w.cell? ⟨b, off + i, none⟩ = some (.string l[i]!) := by
  obtain ⟨b, off, h1, h2, h3⟩ := h (fun e => by have := congrArg List.length e; simp at this; rw [this] at hi; simp at hi)
  refine ⟨b, off, h1, h2, h3 i _ ?_⟩
  rw [List.getElem?_map, List.getElem?_eq_getElem hi, getElem!_pos l i hi]; rfl
theorem mem_at {α : Type} [Inhabited α] {l : List α} {i : Nat} (h : i < l.length) : l[i]! ∈ l := by rw [getElem!_pos l i h]; exact List.getElem_mem h
set_option maxHeartbeats 400000 in
theorem noName_any (s : ByteArray) (w : World) (hs : s.size ≤ 140737488351232) : Calls Tryz.prog 113 #[.string s] w fun e w' => e = .returned (.bool (!nameK s.toList)) ∧ w = w' := by
  go_enter Tryz.func113, Tryz.ntmps113
  go_wp2_with (go_at_call 75; refine (isName_any s _ hs).mono ?_; rintro e w' ⟨rfl, rfl⟩)
  go_ret
  exact ⟨rfl, rfl⟩
set_option maxHeartbeats 1000000 in
theorem idxNames_any (A : Option Addr) (c : Nat) (l : List ByteArray) (w : World) (hr : Row w A (l.map Value.string)) (hl : l.length * 16 ≤ 140737488351232) (hs : ∀ s ∈ l, s.size ≤ 140737488351232) :
    Calls Tryz.prog 125 #[.slice A l.length c, .func (.func 113) #[] #[]] w fun e w' => e = .returned (.int .i64 (idxB (fun s : ByteArray => !nameK s.toList) l)) ∧ w = w' := by
  go_enter Tryz.func125, Tryz.ntmps125
  go_wp2
  go_loop [5, 8] (fun _ i => ∃ k : Nat, k ≤ l.length ∧ i = .int .i64 k ∧ Hid (∀ j, j < k → (fun s : ByteArray => !nameK s.toList) l[j]! = false)) (fun _ i => l.length - (intOf i).toNat)
  case atStart => exact ⟨0, Nat.zero_le _, rfl, fun j hj => absurd hj (Nat.not_lt_zero _)⟩
  case round =>
    obtain ⟨k, hk, rfl, HR⟩ := hrel
    by_cases hlt : k < l.length
    · obtain ⟨b, off, rfl, hb, hc⟩ := hr.str_at hlt
      have hsk := hs _ (mem_at hlt)
      have C := fun W => Lib.hid (noName_any l[k]! W hsk)
      cases hn : nameK l[k]!.toList with
      | true =>
        have HR' := Lib.hid (all_step (p := fun s : ByteArray => !nameK s.toList) HR.out (by show (!nameK l[k]!.toList) = false; rw [hn]; rfl : (fun s : ByteArray => !nameK s.toList) l[k]! = false))
        rw [hn] at C
        clear hn HR
        generalize l[k]! = x at *
        go_wp2_with (go_at_call 113; refine (C _).out.mono ?_; rintro e w' ⟨rfl, rfl⟩)
        go_round
        case rel => exact ⟨k + 1, hlt, by go_num, HR'⟩
        case measure => simp [intOf]; omega
      | false =>
        have HF := Lib.hid (idxB_hit (p := fun s : ByteArray => !nameK s.toList) hlt (by show (!nameK l[k]!.toList) = true; rw [hn]; rfl) HR.out)
        rw [hn] at C
        clear hn HR
        generalize l[k]! = x at *
        go_wp2_with (go_at_call 113; refine (C _).out.mono ?_; rintro e w' ⟨rfl, rfl⟩)
        go_ret
        exact ⟨ret_i64 HF.out.symm, rfl⟩
    · obtain rfl : k = l.length := by omega
      have HF := Lib.hid (idxB_miss (p := fun s : ByteArray => !nameK s.toList) HR.out)
      clear HR
      go_wp2_with fail
      go_ret
      exact ⟨ret_i64 HF.out.symm, rfl⟩
theorem not_any_all {l : List ByteArray} : (!(l.any fun s => !nameK s.toList)) = l.all fun s => nameK s.toList := by
  rw [Bool.eq_iff_iff]; simp
set_option maxHeartbeats 400000 in
theorem hasNoName_any (A : Option Addr) (c : Nat) (l : List ByteArray) (w : World) (hr : Row w A (l.map Value.string)) (hl : l.length * 16 ≤ 140737488351232) (hs : ∀ s ∈ l, s.size ≤ 140737488351232) :
    Calls Tryz.prog 112 #[.slice A l.length c, .func (.func 113) #[] #[]] w fun e w' => e = .returned (.bool (l.any fun s => !nameK s.toList)) ∧ w = w' := by
  have HA := Lib.hid (idxB_any (fun s : ByteArray => !nameK s.toList) l)
  go_enter Tryz.func112, Tryz.ntmps112
  go_wp2_with (go_at_call 125; refine (idxNames_any A c l _ hr hl hs).mono ?_; rintro e w' ⟨rfl, rfl⟩)
  go_ret
  exact ⟨ret_bool HA.out, rfl⟩
set_option maxHeartbeats 400000 in
theorem areNames_any (A : Option Addr) (c : Nat) (l : List ByteArray) (w : World) (hr : Row w A (l.map Value.string)) (hl : l.length * 16 ≤ 140737488351232) (hs : ∀ s ∈ l, s.size ≤ 140737488351232) :
    Calls Tryz.prog 80 #[.slice A l.length c] w fun e w' => e = .returned (.bool (l.all fun s => nameK s.toList)) ∧ w = w' := by
  go_enter Tryz.func80, Tryz.ntmps80
  go_wp2_with (go_at_call 112; refine (hasNoName_any A c l _ hr hl hs).mono ?_; rintro e w' ⟨rfl, rfl⟩)
  go_ret
  exact ⟨ret_bool not_any_all, rfl⟩
end Go.Proofs.YtjgcjnkeeiaafaaGreatDoor

namespace Go.Proofs.YtjgcjnkeeiaafaaGreatDoor
open Go.RowKit Go.Shelf
/-- The looker: the graph, and its four maps. -/
structure LkIn (w : World) (L : Nat) (g : Gr) (bg be br bu : Nat) : Prop where
  c0 : w.cell? ⟨L, 0, none⟩ = some (.slice g.ga g.gs.length g.gc)
  c1 : w.cell? ⟨L, 1, none⟩ = some (.slice g.ea g.es.length g.ec)
  c2 : w.cell? ⟨L, 2, none⟩ = some (.slice g.ra g.rs.length g.rc)
  c3 : w.cell? ⟨L, 3, none⟩ = some (.slice g.ua g.us.length g.uc)
  c4 : w.cell? ⟨L, 4, none⟩ = some (.map (some bg))
  c5 : w.cell? ⟨L, 5, none⟩ = some (.map (some be))
  c6 : w.cell? ⟨L, 6, none⟩ = some (.map (some br))
  c7 : w.cell? ⟨L, 7, none⟩ = some (.map (some bu))
  gm : MapFn w Tryz.prog 9 3 bg g.gs.length (firstOf (g.gs.map fun p => litS p.name))
  em : MapFn w Tryz.prog 9 3 be g.es.length (firstOf (g.es.map fun p => litS p.name))
  rm : MapFn w Tryz.prog 42 3 br g.rs.length (firstOf (g.rs.map fun p => rlit (rkey p)))
  um : MapFn w Tryz.prog 9 3 bu g.us.length (firstOf (g.us.map fun p => litS p.name))
  ing : InG w g
theorem LkIn.lt {w : World} {L : Nat} {g : Gr} {bg be br bu : Nat} (h : LkIn w L g bg be br bu) : L < w.heap.size := World.block_lt_of_cell? _ _ h.c0
theorem LkIn.below {w w' : World} {L : Nat} {g : Gr} {bg be br bu : Nat} (h : LkIn w L g bg be br bu) (hb : Below w.heap.size w w') : LkIn w' L g bg be br bu := by
  have hL := h.lt
  have hc : ∀ i : Nat, w'.cell? ⟨L, i, none⟩ = w.cell? ⟨L, i, none⟩ := fun i => hb.cell (p := ⟨L, i, none⟩) hL
  exact ⟨(hc 0).trans h.c0, (hc 1).trans h.c1, (hc 2).trans h.c2, (hc 3).trans h.c3, (hc 4).trans h.c4, (hc 5).trans h.c5, (hc 6).trans h.c6, (hc 7).trans h.c7,
    h.gm.below (Nat.le_refl _) hb, h.em.below (Nat.le_refl _) hb, h.rm.below (Nat.le_refl _) hb, h.um.below (Nat.le_refl _) hb, h.ing.below (Nat.le_refl _) hb⟩
theorem first_nm {α : Type} (nm : α → ByteArray) (l : List α) (s : ByteArray) : firstOf (l.map fun x => litS (nm x)) (litS s) = if hasB (l.map fun x => (nm x).toList) s.toList then some ((l.map fun x => (nm x).toList).idxOf s.toList) else none := by
  have h := firstOf_map (fun k : Key => Lit.string k) s.toList (l.map fun x => (nm x).toList) (fun x _ h => by injection h)
  rw [List.map_map] at h
  have e1 : (fun x => litS (nm x)) = ((fun k : Key => Lit.string k) ∘ fun x => (nm x).toList) := by
    funext x; simp only [litS, Function.comp, Lib.toList_data]
  have e2 : litS s = Lit.string s.toList := by simp only [litS, Lib.toList_data]
  rw [e1, e2]
  exact h
/-- A look-up by name: a place, and whether there is one. -/
theorem look_nm {α : Type} (nm : α → ByteArray) (l : List α) {s : ByteArray} (hs : s.size ≤ 140737488351232) :
    ∃ q : Nat, (∀ (b : Nat) (w : World), MapFn w Tryz.prog 9 3 b l.length (firstOf (l.map fun x => litS (nm x))) →
      (Instr.lookup 94 (.map (some b)) (.string s) true).run Tryz.prog w = .ok (.tuple #[.int .i64 (q : Int), .bool (hasB (l.map fun x => (nm x).toList) s.toList)]) w ∧
      (Instr.lookup 94 (.map (some b)) (.string s) false).run Tryz.prog w = .ok (.int .i64 (q : Int)) w) ∧ (hasB (l.map fun x => (nm x).toList) s.toList = true → q = (l.map fun x => (nm x).toList).idxOf s.toList ∧ q < l.length) ∧ q ≤ l.length := by
  refine ⟨if hasB (l.map fun x => (nm x).toList) s.toList then (l.map fun x => (nm x).toList).idxOf s.toList else 0, fun b w h => ?_, fun e => ?_, ?_⟩
  · have h1 := h.look_ok lawS Tryz.underlying94 Tryz.underlying3 (Tryz.zeroValue3 w) (keyS hs)
    have h2 := h.look lawS Tryz.underlying94 Tryz.underlying3 (Tryz.zeroValue3 w) (keyS hs)
    rw [first_nm] at h1 h2
    cases hh : hasB (l.map fun x => (nm x).toList) s.toList with
    | true => rw [hh] at h1 h2; exact ⟨h1, h2⟩
    | false => rw [hh] at h1 h2; exact ⟨h1, h2⟩
  · rw [if_pos e]
    refine ⟨rfl, ?_⟩
    have := List.idxOf_lt_length_iff.2 (List.contains_iff_mem.1 e)
    simpa using this
  · split
    · have := List.idxOf_le_length (l := l.map fun x => (nm x).toList) (a := s.toList)
      simpa using this
    · exact Nat.zero_le _
section
variable {L : Nat} {g : Gr} {bg be br bu : Nat}
set_option maxHeartbeats 400000 in
theorem isGroup_any (w : World) (h : LkIn w L g bg be br bu) (s : ByteArray) (hs : s.size ≤ 140737488351232) :
    Calls Tryz.prog 77 #[.pointer (some ⟨L, 0, none⟩), .string s] w fun e w' => e = .returned (.bool (hasB (gns g) s.toList)) ∧ w = w' := by
  have c4 := h.c4
  obtain ⟨q, hlk, _, _⟩ := look_nm Gp.name g.gs hs
  have h1 := (hlk _ _ h.gm).1
  clear hlk
  clear h
  go_enter Tryz.func77, Tryz.ntmps77
  go_wp2
  go_ret
  exact ⟨rfl, rfl⟩
set_option maxHeartbeats 400000 in
theorem isUser_any (w : World) (h : LkIn w L g bg be br bu) (s : ByteArray) (hs : s.size ≤ 140737488351232) :
    Calls Tryz.prog 82 #[.pointer (some ⟨L, 0, none⟩), .string s] w fun e w' => e = .returned (.bool (hasB (uns g) s.toList)) ∧ w = w' := by
  have c4 := h.c7
  obtain ⟨q, hlk, _, _⟩ := look_nm Us.name g.us hs
  have h1 := (hlk _ _ h.um).1
  clear hlk
  clear h
  go_enter Tryz.func82, Tryz.ntmps82
  go_wp2
  go_ret
  exact ⟨rfl, rfl⟩
set_option maxHeartbeats 400000 in
theorem isThere_any (w : World) (h : LkIn w L g bg be br bu) (s : ByteArray) (hs : s.size ≤ 140737488351232) :
    Calls Tryz.prog 78 #[.pointer (some ⟨L, 0, none⟩), .string s] w fun e w' => e = .returned (.bool (thereB g s.toList)) ∧ w = w' := by
  have c4 := h.c5
  obtain ⟨q, hlk, _, _⟩ := look_nm Ev.name g.es hs
  have h1 := (hlk _ _ h.em).1
  clear hlk
  have C := fun W hW => Lib.hid (isGroup_any (L := L) (g := g) (bg := bg) (be := be) (br := br) (bu := bu) W hW s hs)
  have H := Lib.hid h
  clear h
  have HT : Hid (thereB g s.toList = (hasB (ens g) s.toList || hasB (gns g) s.toList)) := rfl
  have he : hasB (g.es.map fun x => x.name.toList) s.toList = hasB (ens g) s.toList := rfl
  rw [he] at h1
  clear he
  cases hh : hasB (ens g) s.toList with
  | true =>
    rw [hh] at h1 HT
    clear hh
    go_enter Tryz.func78, Tryz.ntmps78
    go_wp2_with fail
    go_ret
    exact ⟨ret_bool HT.out.symm, rfl⟩
  | false =>
    rw [hh] at h1 HT
    clear hh
    go_enter Tryz.func78, Tryz.ntmps78
    go_wp2_with (go_at_call 77; refine (C _ H.out).out.mono ?_; rintro e w' ⟨rfl, rfl⟩)
    go_ret
    exact ⟨ret_bool HT.out.symm, rfl⟩
set_option maxHeartbeats 400000 in
theorem isGroupAhead_any (w : World) (h : LkIn w L g bg be br bu) (s : ByteArray) (hs : s.size ≤ 140737488351232) (i : Nat) :
    Calls Tryz.prog 76 #[.pointer (some ⟨L, 0, none⟩), .string s, .int .i64 i] w fun e w' => e = .returned (.bool (hasB (gns g) s.toList && aheadB (gns g) s.toList i)) ∧ w = w' := by
  have c4 := h.c4
  obtain ⟨q, hlk, hq, _⟩ := look_nm Gp.name g.gs hs
  have h1 := (hlk _ _ h.gm).1
  clear hlk
  have he : hasB (g.gs.map fun x => x.name.toList) s.toList = hasB (gns g) s.toList := rfl
  rw [he] at h1 hq
  clear h he
  cases hh : hasB (gns g) s.toList with
  | true =>
    rw [hh] at h1
    have HQ : Hid (decide (q < i) = aheadB (gns g) s.toList i) := Lib.hid (by rw [(hq hh).1]; rfl)
    clear hh hq
    go_enter Tryz.func76, Tryz.ntmps76
    go_wp2_with fail
    go_ret
    exact ⟨ret_bool (by rw [Bool.true_and, ← HQ.out]), rfl⟩
  | false =>
    rw [hh] at h1
    clear hh hq
    go_enter Tryz.func76, Tryz.ntmps76
    go_wp2_with fail
    go_ret
    exact ⟨rfl, rfl⟩
end
end Go.Proofs.YtjgcjnkeeiaafaaGreatDoor

namespace Go.Proofs.YtjgcjnkeeiaafaaGreatDoor
open Go.RowKit Go.Shelf
theorem below_draws {B : Nat} {a w : World} (h : Below B a w) (n : Nat) : Below B a (w.drewN n) := ⟨h.os, h.tape, h.output, h.size, h.block⟩
theorem quiet_left {P : Program} {f : FuncId} {args : Array Value} {w : World} {n : Nat} {v : Value}
    (h : Calls P f args (w.drewN n) fun e w' => e = .returned v ∧ w.drewN n = w') : Calls P f args (w.drewN n) fun e w'' => e = .returned v ∧ ∃ m, w'' = w.drewN m :=
  h.mono fun _ _ ⟨he, hm⟩ => ⟨he, n, hm.symm⟩
section
variable {L : Nat} {g : Gr} {bg be br bu : Nat}
theorem has_at {α : Type} [Inhabited α] (nm : α → ByteArray) {l : List α} {i : Nat} (hi : i < l.length) : hasB (l.map fun x => (nm x).toList) (nm l[i]!).toList = true := by
  simp only [hasB, List.contains_iff_mem, List.mem_map]
  exact ⟨_, mem_at hi, rfl⟩
set_option maxRecDepth 100000 in
set_option maxHeartbeats 1000000 in
theorem group_any (w : World) (h : LkIn w L g bg be br bu) (hz : SzG g) (i : Nat) (hi : i < g.gs.length) :
    Calls Tryz.prog 34 #[.pointer (some ⟨L, 0, none⟩), .int .i64 i] w fun e w' => e = .returned (.int .i64 (groupE g i)) ∧ Below w.heap.size w w' := by
  have hgl := hz.gs
  have c0 := h.c0
  have c4 := h.c4
  have hL := h.lt
  obtain ⟨b, off, hA, hb, hc⟩ := h.ing.gs.at_ (k := 2) (fun _ => rfl) (by omega) hi
  obtain ⟨hsn, hsp⟩ := hz.gp _ (mem_at hi)
  have k0 := hc 0 _ rfl
  rw [Nat.add_zero] at k0
  have k1 := hc 1 _ rfl
  have HE : Hid (groupE g i = if nameK g.gs[i]!.name.toList then
    if aheadB (gns g) g.gs[i]!.name.toList i then 6
    else if g.gs[i]!.parent.toList == [] then 0
    else if hasB (gns g) g.gs[i]!.parent.toList && aheadB (gns g) g.gs[i]!.parent.toList i then 0 else 10
    else 5) := Lib.hid rfl
  have hat := has_at Gp.name hi
  have hbw : Below w.heap.size w (w.alloc (.cells #[.string g.gs[i]!.name, .string g.gs[i]!.parent] 37)) := (Below.refl _ _).alloc (Nat.le_refl _) _
  obtain ⟨q, hlk, hq, _⟩ := look_nm Gp.name g.gs hsn
  have hl := fun n => (hlk _ _ (h.below (below_draws hbw n)).gm).2
  have hq' := (hq hat).1
  have HA : Hid (decide (q < i) = aheadB (gns g) g.gs[i]!.name.toList i) := Lib.hid (by rw [hq']; rfl)
  have CA := fun W hW => Lib.hid (isGroupAhead_any (L := L) (g := g) (bg := bg) (be := be) (br := br) (bu := bu) W hW g.gs[i]!.parent hsp i)
  have CN := fun W => Lib.hid (isName_any g.gs[i]!.name W hsn)
  have H := Lib.hid h
  rw [hA] at c0
  clear h hc hA hq hq' hat hlk
  generalize g.gs[i]! = p at *
  generalize gns g = ns at *
  cases hn : nameK p.name.toList with
  | false =>
    rw [hn] at CN HE
    clear hn
    go_enter Tryz.func34, Tryz.ntmps34
    go_wp2_with (go_at_call 75; refine (CN _).out.mono ?_; rintro e w' ⟨rfl, rfl⟩)
    go_ret
    exact ⟨ret_i64 (by rw [HE.out]; rfl), hbw⟩
  | true =>
    rw [hn] at CN HE
    clear hn
    by_cases hqi : q < i
    · have hd : decide (q < i) = true := by simpa using hqi
      rw [hd] at HA
      rw [← HA.out] at HE
      go_enter Tryz.func34, Tryz.ntmps34
      go_wp2_with (go_at_call 75; refine (CN _).out.mono ?_; rintro e w' ⟨rfl, rfl⟩)
      go_quiet (fail)
      go_wp2_with fail
      go_ret
      exact ⟨ret_i64 (by rw [HE.out]; rfl), below_draws hbw _⟩
    · have hd : decide (q < i) = false := by simpa using hqi
      rw [hd] at HA
      rw [← HA.out] at HE
      cases hp : (p.parent.toList == []) with
      | true =>
        rw [hp] at HE
        go_enter Tryz.func34, Tryz.ntmps34
        go_wp2_with (go_at_call 75; refine (CN _).out.mono ?_; rintro e w' ⟨rfl, rfl⟩)
        go_quiet (fail)
        go_wp2_with fail
        go_ret
        exact ⟨ret_i64 (by rw [HE.out]; rfl), below_draws hbw _⟩
      | false =>
        rw [hp] at HE
        cases ha : (hasB ns p.parent.toList && aheadB ns p.parent.toList i) with
        | true =>
          rw [ha] at CA HE
          clear ha
          go_enter Tryz.func34, Tryz.ntmps34
          go_wp2_with (go_at_call 75; refine (CN _).out.mono ?_; rintro e w' ⟨rfl, rfl⟩)
          go_quiet (fail)
          go_wp2_with (go_at_call 76; refine (CA _ (H.out.below (below_draws hbw _))).out.mono ?_; rintro e w' ⟨rfl, rfl⟩)
          go_ret
          exact ⟨ret_i64 (by rw [HE.out]; rfl), below_draws hbw _⟩
        | false =>
          rw [ha] at CA HE
          clear ha
          go_enter Tryz.func34, Tryz.ntmps34
          go_wp2_with (go_at_call 75; refine (CN _).out.mono ?_; rintro e w' ⟨rfl, rfl⟩)
          go_quiet (fail)
          go_wp2_with (go_at_call 76; refine (CA _ (H.out.below (below_draws hbw _))).out.mono ?_; rintro e w' ⟨rfl, rfl⟩)
          go_ret
          exact ⟨ret_i64 (by rw [HE.out]; rfl), below_draws hbw _⟩
end
end Go.Proofs.YtjgcjnkeeiaafaaGreatDoor
