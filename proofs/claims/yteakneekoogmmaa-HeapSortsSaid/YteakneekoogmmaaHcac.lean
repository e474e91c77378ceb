/-
  A map's entry that is looked up first and stored into later: as one store; for int keys. A heap as it goes on; what stores into its row leave of it.
-/
import Derived.Test.YteakneekoogmmaaHcab
import Derived.WideKeyEntry
namespace Go.Proofs.Yteakneekoogmmaa.HP
open Go.RowKit Go.Shelf Go.Proofs.Yteakneekoogmmaa.B Go.WideElems Go.ChangeMaps Go.MapKept
section
variable {H : Type} {P : Program} {w : World} {t k e : TypeId} {R : Value → Option (DataW H × List MemPlace)} {b : Nat} {es : Array MapEntry} {clock : Nat}
/-- Look an entry up (it comes anew, if there is none), then store into it: the block stands as one store leaves it. -/
theorem entry_put (K : Maps.Keyed P k) (ht : P.underlying t = some (.map k e)) {z : Value} (hz : ∀ u : World, (zeroValue e).run P u = .ok z u) (hb : w.heap[b]? = some (.map es clock)) (F : Fit P k R es clock) {key : Value} {kl : Lit} (hkey : keyOf P k key = some kl) :
    ∃ (v0 : Value) (st : Nat) (es1 : Array MapEntry) (c1 : Nat), (Instr.mapEntry t (.map (some b)) key).run P w = .ok (.tuple #[v0, goInt st]) (setBlock w b (.map es1 c1)) ∧
      ∀ (w2 : World) (val : Value), w2.heap[b]? = some (.map es1 c1) → ∃ es2 c2, (Instr.entryStore t (.map (some b)) (goInt st) val).run P w2 = .ok () (setBlock w2 b (.map es2 c2)) ∧ (Instr.mapUpdate t (.map (some b)) key val).run P w = .ok () (setBlock w b (.map es2 c2)) := by
  obtain ⟨s1, s2, _⟩ := F.stamped
  rcases K.find w hkey es.toList F.keys with ⟨f1, _⟩ | ⟨j, x, f1, f2, f3⟩
  · refine ⟨z, clock, es.push ⟨key, z, clock⟩, clock + 1, by simp [Instr.mapEntry, run_underlying ht, MapKept.run_getObj_map hb, K.check w false hkey, f1, hz, MapKept.run_setObj_map _ hb, Result.andThen, setBlock], fun w2 val h2 => ⟨es.push ⟨key, val, clock⟩, clock + 1, ?_, by simp [Instr.mapUpdate, run_underlying ht, MapKept.run_getObj_map hb, K.check w false hkey, f1, MapKept.run_setObj_map _ hb, Result.andThen, setBlock]⟩⟩
    have hn : ((es.push ⟨key, z, clock⟩).toList.map (·.born)).Nodup := by
      rw [Array.toList_push, List.map_append]
      refine List.nodup_append.2 ⟨s2, by simp, fun a ha c hc hac => ?_⟩
      obtain ⟨y, hy, rfl⟩ := List.mem_map.1 ha
      simp only [List.map_cons, List.map_nil, List.mem_singleton] at hc
      have := s1 y hy
      omega
    have hi : (es.push ⟨key, z, clock⟩).findIdx? (fun x => ((x.born : Nat) : Int) == ((clock : Nat) : Int)) = some es.size := by
      rw [findIdx_arr]
      exact findIdx_born hn (j := es.size) (e0 := ⟨key, z, clock⟩) (by simp)
    have hm : (es.push ⟨key, z, clock⟩).modify es.size (fun x => { x with val := val }) = es.push ⟨key, val, clock⟩ := by
      refine Array.ext' ?_
      rw [Array.toList_modify, Array.toList_push, Array.toList_push, ← Array.length_toList, modify_last]
    simp [Instr.entryStore, MapKept.run_getObj_map h2, asInt, asIntOf, goInt, hi, hm, MapKept.run_setObj_map _ h2, Result.andThen, setBlock]
  · have hj : es[j]? = some x := by simpa using f2
    have hsame : es.modify j (fun y => { y with key := key }) = es := by
      refine Array.ext' ?_
      rw [Array.toList_modify, modify_eq_set _ _ _ _ f2, show ({ x with key := key } : MapEntry) = x by rw [← f3]]
      exact set_self _ _ _ f2
    refine ⟨x.val, x.born, es, clock, by simp [Instr.mapEntry, run_underlying ht, MapKept.run_getObj_map hb, K.check w false hkey, f1, hj, f3, K.stays w hkey, hsame, MapKept.run_setObj_map _ hb, Result.andThen, setBlock], fun w2 val h2 => ⟨es.modify j (fun y => { y with key := key, val := val }), clock, ?_, by simp [Instr.mapUpdate, run_underlying ht, MapKept.run_getObj_map hb, K.check w false hkey, f1, hj, f3, K.stays w hkey, MapKept.run_setObj_map _ hb, Result.andThen, setBlock]⟩⟩
    have hi : es.findIdx? (fun y => ((y.born : Nat) : Int) == ((x.born : Nat) : Int)) = some j := by
      rw [findIdx_arr]
      exact findIdx_born s2 f2
    have hm : es.modify j (fun y => { y with val := val }) = es.modify j (fun y => { y with key := key, val := val }) := by
      refine Array.ext' ?_
      rw [Array.toList_modify, Array.toList_modify, modify_eq_set _ _ _ _ f2, modify_eq_set _ _ _ _ f2, ← f3]
    simp [Instr.entryStore, MapKept.run_getObj_map h2, asInt, asIntOf, goInt, hi, hm, MapKept.run_setObj_map _ h2, Result.andThen, setBlock]
end
theorem turned_size {w w' : World} {b : Nat} (h : w.mapTurned w' b) : w'.heap.size = w.heap.size := by
  obtain ⟨es, c, es', c', hb, rfl⟩ := h
  simp [setBlock]
theorem turned_other {w w' : World} {b : Nat} (h : w.mapTurned w' b) {q : Nat} (hq : q ≠ b) : w'.heap[q]? = w.heap[q]? := by
  obtain ⟨es, c, es', c', hb, rfl⟩ := h
  exact heap_setBlock_other hb _ hq
theorem turned_below {w w' : World} {b B : Nat} (h : w.mapTurned w' b) (hB : B ≤ b) : Below B w w' := by
  have hs := turned_size h
  have ho := fun q hq => turned_other h (q := q) hq
  obtain ⟨es, c, es', c', hb, rfl⟩ := h
  exact ⟨rfl, rfl, rfl, Nat.le_of_eq hs.symm, fun k hk => ho k (by omega)⟩
set_option maxRecDepth 100000 in
theorem MI.entry {w : World} {b m : Nat} {f : Int → Option Nat} (h : MI w b f m) {i : Int} (hi : (Lit.int .i64 i).wf = true) {p : Nat} (hp : p ≤ 1000000) (hm : m ≤ 1000000) :
    ∃ (v0 : Value) (st : Nat) (w1 : World), (Instr.mapEntry 62 (.map (some b)) (.int .i64 i)).run Try.prog w = .ok (.tuple #[v0, goInt st]) w1 ∧ w.mapTurned w1 b ∧
      ∀ w2 : World, w2.heap[b]? = w1.heap[b]? → ∃ w3, (Instr.entryStore 62 (.map (some b)) (goInt st) (.int .i64 (p : Int))).run Try.prog w2 = .ok () w3 ∧ MI w3 b (putF f i p) (if (f i).isSome then m else m + 1) ∧ w2.mapTurned w3 b := by
  obtain ⟨w1', hr, hMI, _⟩ := h.put hi hp hm
  obtain ⟨D, ⟨es, clock, hb, F, _, _⟩, _⟩ := h
  obtain ⟨v0, st, es1, c1, h1, h2⟩ := entry_put lawZ Try.underlying62 (Try.zeroValue3) hb F (keyZ hi)
  refine ⟨v0, st, _, h1, ⟨es, clock, es1, c1, hb, rfl⟩, fun w2 hw2 => ?_⟩
  rw [heap_setBlock_same hb] at hw2
  obtain ⟨es2, c2, h3, h4⟩ := h2 w2 (.int .i64 (p : Int)) hw2
  refine ⟨_, h3, ?_, ⟨es1, c1, es2, c2, hw2, rfl⟩⟩
  rw [h4] at hr
  injection hr with _ hr
  subst hr
  exact hMI.block (by rw [heap_setBlock_same hw2, heap_setBlock_same hb])
end Go.Proofs.Yteakneekoogmmaa.HP

namespace Go.Proofs.Yteakneekoogmmaa.HP
open Go.RowKit Go.Shelf Go.Proofs.Yteakneekoogmmaa.B Go.ChangeMaps
/-- From where on, and which blocks besides, memory may turn. -/
structure FW where
  w : World
  X : Nat → Prop
def FW.far (F : FW) (q : Nat) : Prop := F.X q ∨ F.w.heap.size ≤ q
/-- All but what may turn is as it was. -/
structure Kept (F : FW) (w : World) : Prop where
  os : w.os = F.w.os
  tape : w.tape = F.w.tape
  output : w.output = F.w.output
  size : F.w.heap.size ≤ w.heap.size
  block : ∀ k, k < F.w.heap.size → ¬ F.X k → w.heap[k]? = F.w.heap[k]?
theorem Kept.refl (w : World) (X : Nat → Prop) : Kept ⟨w, X⟩ w := ⟨rfl, rfl, rfl, Nat.le_refl _, fun _ _ _ => rfl⟩
theorem Kept.call {F : FW} {w w' : World} (h : Kept F w) (hb : Below w.heap.size w w') : Kept F w' :=
  ⟨hb.os.trans h.os, hb.tape.trans h.tape, hb.output.trans h.output, Nat.le_trans h.size hb.size, fun k hk hx => (hb.block k (Nat.lt_of_lt_of_le hk h.size)).trans (h.block k hk hx)⟩
theorem Kept.drew {F : FW} {w : World} (h : Kept F w) : Kept F w.drew := ⟨h.os, h.tape, h.output, h.size, h.block⟩
theorem Kept.setCell {F : FW} {w : World} (h : Kept F w) (p : Addr) (hf : F.far p.block) (v : Value) : Kept F (w.setCell p v) :=
  ⟨h.os, h.tape, h.output, by rw [World.size_setCell]; exact h.size, fun k hk hx => (Below.heap_setCell _ _ _ _ (fun e => by
    rcases hf with hf | hf
    · rw [← e] at hf; exact hx hf
    · omega)).trans (h.block k hk hx)⟩
theorem Kept.grown {F : FW} {w w' : World} {row : Option Nat} (h : Kept F w) (hg : w.grownBy w' row) (hr : ∀ k, row = some k → F.far k) : Kept F w' :=
  ⟨hg.os.trans h.os, hg.tape.trans h.tape, hg.output.trans h.output, Nat.le_trans h.size hg.size, fun k hk hx => (hg.block k (Nat.lt_of_lt_of_le hk h.size) (fun e => by
    rcases hr k e.symm with hf | hf
    · exact hx hf
    · omega)).trans (h.block k hk hx)⟩
theorem Kept.turned {F : FW} {w w' : World} {b : Nat} (h : Kept F w) (ht : w.mapTurned w' b) (hf : F.far b) : Kept F w' := by
  have hs := turned_size ht
  have ho := fun q hq => turned_other ht (q := q) hq
  obtain ⟨es, c, es', c', hb, rfl⟩ := ht
  exact ⟨h.os, h.tape, h.output, by rw [hs]; exact h.size, fun k hk hx => (ho k (fun e => by
    rcases hf with hf | hf
    · rw [← e] at hf; exact hx hf
    · omega)).trans (h.block k hk hx)⟩
/-- A heap in memory that may turn. -/
structure HW (F : FW) (w : World) (hb : Nat) (A : HA) (s : Int) (L : List It) : Prop where
  b : Kept F w
  h : HpI w hb A s L
  lb : F.far hb
  lp : F.far A.pb
  li : ∀ g off, A.ia = some ⟨g, off, none⟩ → F.far g
theorem HpI.keep {w w' : World} {hb : Nat} {A : HA} {s : Int} {L : List It} (h : HpI w hb A s L) (hk : ∀ k, k < w.heap.size → w'.heap[k]? = w.heap[k]?) : HpI w' hb A s L where
  box := (hk _ h.lt).trans h.box
  row := by
    obtain ⟨B, hr⟩ := h.row
    refine ⟨B, hr.1, ?_⟩
    rcases hr.2 with h1 | ⟨g, cap, cur, e1, e2, e3, e4⟩
    · exact .inl h1
    · exact .inr ⟨g, cap, cur, e1, e2, (hk g (blk_lt e3)).trans e3, e4⟩
  map := by obtain ⟨f, hm, hp⟩ := h.map; exact ⟨f, hm.block (hk _ hm.lt), hp⟩
  ok := h.ok
  few := h.few
  step := h.step
theorem HW.call {F : FW} {w w' : World} {hb : Nat} {A : HA} {s : Int} {L : List It} (h : HW F w hb A s L) (hb' : Below w.heap.size w w') : HW F w' hb A s L :=
  ⟨h.b.call hb', h.h.keep hb'.block, h.lb, h.lp, h.li⟩
/-- For a call from W on: what lies behind w there stays. -/
def FW.inn (F : FW) (w W : World) : FW := ⟨W, fun q => F.far q ∧ q < w.heap.size⟩
theorem HpI.pl {w : World} {hb : Nat} {A : HA} {s : Int} {L : List It} (h : HpI w hb A s L) : A.pb < w.heap.size := by obtain ⟨f, hm, _⟩ := h.map; exact hm.lt
theorem HpI.il {w : World} {hb : Nat} {A : HA} {s : Int} {L : List It} (h : HpI w hb A s L) {g off : Nat} (e : A.ia = some ⟨g, off, none⟩) : g < w.heap.size := by
  obtain ⟨B, hr⟩ := h.row
  rcases hr.2 with ⟨hv, _⟩ | ⟨g', cap, cur, hv, _, hg, _⟩
  · injection hv with e1 _ _
    rw [e] at e1; cases e1
  · injection hv with e1 _ _
    rw [e] at e1
    injection e1 with e1
    injection e1 with e1 _ _
    rw [e1]; exact blk_lt hg
theorem HW.inner {F : FW} {w W : World} {hb : Nat} {A : HA} {s : Int} {L : List It} (h : HW F w hb A s L) (hW : Below w.heap.size w W) : HW (F.inn w W) W hb A s L :=
  ⟨Kept.refl _ _, h.h.keep hW.block, .inl ⟨h.lb, h.h.lt⟩, .inl ⟨h.lp, h.h.pl⟩, fun g off e => .inl ⟨h.li g off e, h.h.il e⟩⟩
theorem FW.far_inn {F : FW} {w W : World} (hK : Kept F w) (hW : Below w.heap.size w W) {q : Nat} (h : (F.inn w W).far q) : F.far q := by
  rcases h with h | h
  · exact h.1
  · have h' : W.heap.size ≤ q := h
    have := hK.size
    have := hW.size
    exact .inr (by omega)
theorem Kept.outer {F : FW} {w W W' : World} (h : Kept F w) (hW : Below w.heap.size w W) (h' : Kept (F.inn w W) W') : Kept F W' :=
  have hW' := h.call hW
  ⟨h'.os.trans hW'.os, h'.tape.trans hW'.tape, h'.output.trans hW'.output, Nat.le_trans hW'.size h'.size, fun k hk hx => (h'.block k (Nat.lt_of_lt_of_le hk hW'.size) (fun e => by
    rcases e.1 with e | e
    · exact hx e
    · omega)).trans (hW'.block k hk hx)⟩
theorem HW.outer {F : FW} {w W W' : World} {hb hb' : Nat} {A A' : HA} {s s' : Int} {L L' : List It} (h : HW F w hb A s L) (hW : Below w.heap.size w W) (h' : HW (F.inn w W) W' hb' A' s' L') : HW F W' hb' A' s' L' :=
  ⟨h.b.outer hW h'.b, h'.h, FW.far_inn h.b hW h'.lb, FW.far_inn h.b hW h'.lp, fun g off e => FW.far_inn h.b hW (h'.li g off e)⟩
/-- What lies between stays. -/
theorem Kept.mid {F : FW} {w W W' : World} (h' : Kept (F.inn w W) W') {k : Nat} (h1 : w.heap.size ≤ k) (h2 : k < W.heap.size) : W'.heap[k]? = W.heap[k]? :=
  h'.block k h2 (fun e => by have := e.2; omega)
/-- The row's block, and that it is no other's. -/
theorem HpI.blk {w : World} {hb : Nat} {A : HA} {s : Int} {L : List It} (h : HpI w hb A s L) (h0 : 0 < L.length) : ∃ g B cur, A.ia = some ⟨g, 0, none⟩ ∧ B ≤ g ∧ w.heap[g]? = some (.cells cur 32 (0, 0)) ∧ g ≠ hb ∧ g ≠ A.pb ∧ g < w.heap.size ∧ w.ownsRow B 32 3 (.slice (some ⟨g, 0, none⟩) L.length A.ic) L.length (L.flatMap itC) := by
  obtain ⟨B, hr⟩ := h.row
  rcases hr.2 with ⟨hv, hn⟩ | ⟨g, cap, cur, hv, hB, hg, _⟩
  · omega
  · injection hv with e1 e2 e3
    have hr2 := hr
    rw [e1] at hr2
    refine ⟨g, B, cur, e1, hB, hg, fun e => ?_, fun e => ?_, blk_lt hg, hr2⟩
    · rw [e, h.box] at hg
      injection hg with hg
      injection hg with _ e4 _
      exact absurd e4 (by decide)
    · obtain ⟨f, ⟨D, ⟨es, c, hm, _⟩, _⟩, _⟩ := h.map
      rw [e, hm] at hg
      cases hg
theorem flat_put (L : List It) {i : Nat} (hi : i < L.length) (x : It) : (((L.flatMap itC).set (i * 3 + 0) (.int .i64 x.id)).set (i * 3 + 1) (.int .i64 x.base)).set (i * 3 + 2) (.int .i64 x.since) = (L.set i x).flatMap itC := by
  have e1 := flat_set itC 3 (fun _ => rfl) L i hi 0 (by omega) (.int .i64 x.id) { L[i]! with id := x.id } (fun y hy => by obtain rfl : y = L[i]! := get_some hy; rfl)
  have e2 := flat_set itC 3 (fun _ => rfl) (L.set i { L[i]! with id := x.id }) i (by rw [List.length_set]; exact hi) 1 (by omega) (.int .i64 x.base) { L[i]! with id := x.id, base := x.base } (fun y hy => by
    obtain rfl : y = (L.set i { L[i]! with id := x.id })[i]! := get_some hy
    rw [set_here hi]; rfl)
  have e3 := flat_set itC 3 (fun _ => rfl) ((L.set i { L[i]! with id := x.id }).set i { L[i]! with id := x.id, base := x.base }) i (by rw [List.length_set, List.length_set]; exact hi) 2 (by omega) (.int .i64 x.since) x (fun y hy => by
    obtain rfl : y = ((L.set i { L[i]! with id := x.id }).set i { L[i]! with id := x.id, base := x.base })[i]! := get_some hy
    rw [set_here (by rw [List.length_set]; exact hi)]; rfl)
  rw [e1, e2, e3, List.set_set, List.set_set]
/-- One item is stored into the row. -/
theorem row_put {w : World} {B g n c : Nat} {L : List It} (h : w.ownsRow B 32 3 (.slice (some ⟨g, 0, none⟩) n c) n (L.flatMap itC)) {i : Nat} (hi : i < L.length) (x : It) :
    (((w.setCell ⟨g, i * 3, none⟩ (.int .i64 x.id)).setCell ⟨g, i * 3 + 1, none⟩ (.int .i64 x.base)).setCell ⟨g, i * 3 + 2, none⟩ (.int .i64 x.since)).ownsRow B 32 3 (.slice (some ⟨g, 0, none⟩) n c) n ((L.set i x).flatMap itC) := by
  have h1 := (h.stored (i * 3 + 0) (.int .i64 x.id)).1
  have h2 := (h1.stored (i * 3 + 1) (.int .i64 x.base)).1
  have h3 := (h2.stored (i * 3 + 2) (.int .i64 x.since)).1
  rw [flat_put L hi x] at h3
  exact h3
/-- One item stored at a place of a block. -/
abbrev put3 (w : World) (g k : Nat) (x : It) : World := ((w.setCell ⟨g, k, none⟩ (.int .i64 x.id)).setCell ⟨g, k + 1, none⟩ (.int .i64 x.base)).setCell ⟨g, k + 2, none⟩ (.int .i64 x.since)
theorem put3_other {w : World} {g k q : Nat} {x : It} (h : q ≠ g) : (put3 w g k x).heap[q]? = w.heap[q]? := (blk_other h).trans ((blk_other h).trans (blk_other h))
theorem put3_size (w : World) (g k : Nat) (x : It) : (put3 w g k x).heap.size = w.heap.size := by rw [World.size_setCell, World.size_setCell, World.size_setCell]
theorem Kept.put3 {F : FW} {w : World} (h : Kept F w) {g : Nat} (hf : F.far g) (k : Nat) (x : It) : Kept F (put3 w g k x) := ((h.setCell ⟨g, k, none⟩ hf _).setCell ⟨g, k + 1, none⟩ hf _).setCell ⟨g, k + 2, none⟩ hf _
theorem own_keep' {w w' : World} {B e z n c g : Nat} {xs : List Value} (h : w.ownsRow B e z (.slice (some ⟨g, 0, none⟩) n c) n xs) (hg : w'.heap[g]? = w.heap[g]?) : w'.ownsRow B e z (.slice (some ⟨g, 0, none⟩) n c) n xs := by
  refine ⟨h.1, ?_⟩
  rcases h.2 with ⟨hv, _⟩ | ⟨g', cap, cur, h1, h2, h3, h4⟩
  · injection hv with e _ _; cases e
  · have e := h1
    injection e with e _ _
    injection e with e
    injection e with e
    subst e
    exact .inr ⟨_, cap, cur, h1, h2, hg.trans h3, h4⟩
theorem sw_mem {L : List It} {i j : Nat} (hi : i < L.length) (hj : j < L.length) {x : It} (h : x ∈ sw L i j) : x ∈ L := (sw_perm hi hj).mem_iff.1 h
/-- The row's cells at a place. -/
theorem row_at {w : World} {B g n c : Nat} {L : List It} (h : w.ownsRow B 32 3 (.slice (some ⟨g, 0, none⟩) n c) n (L.flatMap itC)) {i : Nat} (hi : i < L.length) (hn : n = L.length) :
    (w.cell? ⟨g, i * 3, none⟩ = some (.int .i64 L[i]!.id) ∧ w.cell? ⟨g, i * 3 + 1, none⟩ = some (.int .i64 L[i]!.base) ∧ w.cell? ⟨g, i * 3 + 2, none⟩ = some (.int .i64 L[i]!.since)) ∧ w.frozen? ⟨g, i * 3, none⟩ = false ∧ w.frozen? ⟨g, i * 3 + 1, none⟩ = false ∧ w.frozen? ⟨g, i * 3 + 2, none⟩ = false :=
  ⟨⟨(h.cellAt (i * 3 + 0) (by omega)).trans (flat_at itC 3 (fun _ => rfl) L i hi 0 (by omega)), (h.cellAt (i * 3 + 1) (by omega)).trans (flat_at itC 3 (fun _ => rfl) L i hi 1 (by omega)), (h.cellAt (i * 3 + 2) (by omega)).trans (flat_at itC 3 (fun _ => rfl) L i hi 2 (by omega))⟩, h.frozenAt (i * 3 + 0), h.frozenAt (i * 3 + 1), h.frozenAt (i * 3 + 2)⟩
end Go.Proofs.Yteakneekoogmmaa.HP
