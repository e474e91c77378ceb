/-
  A map's entry that is looked up first and stored into later: as one store; for int keys.
-/
import Derived.Test.YtcipgjelbnmdiaaHpD
import Derived.WideKeyEntry
namespace Go.Proofs.Ytcipgjelbnmdiaa.HP
open Go.RowKit Go.Shelf Go.Proofs.Ytcipgjelbnmdiaa.B Go.WideElems Go.ChangeMaps Go.MapKept

section
variable {H : Type} {P : Program} {w : World} {t k e : TypeId} {R : Value → Option (DataW H × List MemPlace)} {b : Nat} {es : Array MapEntry} {clock : Nat}
/-- Look an entry up (it comes anew, if there is none), then store into it: the block stands as one store leaves it. -/
theorem entry_put (K : Maps.Keyed P k) (ht : P.underlying t = some (.map k e)) {z : Value} (hz : ∀ u : World, (zeroValue e).run P u = .ok z u) (hb : w.heap[b]? = some (.map es clock)) (F : Fit P k R es clock) {key : Value} {kl : Lit} (hkey : keyOf P k key = some kl) :
    ∃ (v0 : Value) (st : Nat) (es1 : Array MapEntry) (c1 : Nat), (Instr.mapEntry t (.map (some b)) key).run P w = .ok (.tuple #[v0, goInt st]) (setBlock w b (.map es1 c1)) ∧
      ∀ (w2 : World) (val : Value), w2.heap[b]? = some (.map es1 c1) → ∃ es2 c2, (Instr.entryStore t (.map (some b)) (goInt st) val).run P w2 = .ok () (setBlock w2 b (.map es2 c2)) ∧ (Instr.mapUpdate t (.map (some b)) key val).run P w = .ok () (setBlock w b (.map es2 c2)) := by
  obtain ⟨s1, s2, _⟩ := F.stamped
  rcases K.find w hkey es.toList F.keys with ⟨f1, _⟩ | ⟨j, x, f1, f2, f3⟩
  · refine ⟨z, clock, es.push ⟨key, z, clock⟩, clock + 1, by simp [Instr.mapEntry, run_underlying ht, MapKept.run_getObj_map hb, K.check w false hkey, f1, hz, MapKept.run_setObj_map _ hb, Result.andThen, setBlock], fun w2 val h2 => ⟨es.push ⟨key, val, clock⟩, clock + 1, ?_, by simp [Instr.mapUpdate, run_underlying ht, MapKept.run_getObj_map hb, K.check w false hkey, f1, MapKept.run_setObj_map _ hb, Result.andThen, setBlock]⟩⟩
    have hn : ((es.push ⟨key, z, clock⟩).toList.map (·.born)).Nodup := by
      rw [Array.toList_push, List.map_append]
      refine List.nodup_append.2 ⟨s2, by simp, fun a ha c hc hac => ?_⟩
      obtain ⟨y, hy, rfl⟩ := List.mem_map.1 ha
      simp only [List.map_cons, List.map_nil, List.mem_singleton] at hc
      have := s1 y hy
      omega
    have hi : (es.push ⟨key, z, clock⟩).findIdx? (fun x => ((x.born : Nat) : Int) == ((clock : Nat) : Int)) = some es.size := by
      rw [findIdx_arr]
      exact findIdx_born hn (j := es.size) (e0 := ⟨key, z, clock⟩) (by simp)
    have hm : (es.push ⟨key, z, clock⟩).modify es.size (fun x => { x with val := val }) = es.push ⟨key, val, clock⟩ := by
      refine Array.ext' ?_
      rw [Array.toList_modify, Array.toList_push, Array.toList_push, ← Array.length_toList, modify_last]
    simp [Instr.entryStore, MapKept.run_getObj_map h2, asInt, asIntOf, goInt, hi, hm, MapKept.run_setObj_map _ h2, Result.andThen, setBlock]
  · have hj : es[j]? = some x := by simpa using f2
    have hsame : es.modify j (fun y => { y with key := key }) = es := by
      refine Array.ext' ?_
      rw [Array.toList_modify, modify_eq_set _ _ _ _ f2, show ({ x with key := key } : MapEntry) = x by rw [← f3]]
      exact set_self _ _ _ f2
    refine ⟨x.val, x.born, es, clock, by simp [Instr.mapEntry, run_underlying ht, MapKept.run_getObj_map hb, K.check w false hkey, f1, hj, f3, K.stays w hkey, hsame, MapKept.run_setObj_map _ hb, Result.andThen, setBlock], fun w2 val h2 => ⟨es.modify j (fun y => { y with key := key, val := val }), clock, ?_, by simp [Instr.mapUpdate, run_underlying ht, MapKept.run_getObj_map hb, K.check w false hkey, f1, hj, f3, K.stays w hkey, MapKept.run_setObj_map _ hb, Result.andThen, setBlock]⟩⟩
    have hi : es.findIdx? (fun y => ((y.born : Nat) : Int) == ((x.born : Nat) : Int)) = some j := by
      rw [findIdx_arr]
      exact findIdx_born s2 f2
    have hm : es.modify j (fun y => { y with val := val }) = es.modify j (fun y => { y with key := key, val := val }) := by
      refine Array.ext' ?_
      rw [Array.toList_modify, Array.toList_modify, modify_eq_set _ _ _ _ f2, modify_eq_set _ _ _ _ f2, ← f3]
    simp [Instr.entryStore, MapKept.run_getObj_map h2, asInt, asIntOf, goInt, hi, hm, MapKept.run_setObj_map _ h2, Result.andThen, setBlock]
end
theorem turned_size {w w' : World} {b : Nat} (h : w.mapTurned w' b) : w'.heap.size = w.heap.size := by
  obtain ⟨es, c, es', c', hb, rfl⟩ := h
  simp [setBlock]
theorem turned_other {w w' : World} {b : Nat} (h : w.mapTurned w' b) {q : Nat} (hq : q ≠ b) : w'.heap[q]? = w.heap[q]? := by
  obtain ⟨es, c, es', c', hb, rfl⟩ := h
  exact heap_setBlock_other hb _ hq
theorem turned_below {w w' : World} {b B : Nat} (h : w.mapTurned w' b) (hB : B ≤ b) : Below B w w' := by
  have hs := turned_size h
  have ho := fun q hq => turned_other h (q := q) hq
  obtain ⟨es, c, es', c', hb, rfl⟩ := h
  exact ⟨rfl, rfl, rfl, Nat.le_of_eq hs.symm, fun k hk => ho k (by omega)⟩
set_option maxRecDepth 100000 in
theorem MI.entry {w : World} {b m : Nat} {f : Int → Option Nat} (h : MI w b f m) {i : Int} (hi : (Lit.int .i64 i).wf = true) {p : Nat} (hp : p ≤ 1000000) (hm : m ≤ 1000000) :
    ∃ (v0 : Value) (st : Nat) (w1 : World), (Instr.mapEntry 80 (.map (some b)) (.int .i64 i)).run Try.prog w = .ok (.tuple #[v0, goInt st]) w1 ∧ w.mapTurned w1 b ∧
      ∀ w2 : World, w2.heap[b]? = w1.heap[b]? → ∃ w3, (Instr.entryStore 80 (.map (some b)) (goInt st) (.int .i64 (p : Int))).run Try.prog w2 = .ok () w3 ∧ MI w3 b (putF f i p) (if (f i).isSome then m else m + 1) ∧ w2.mapTurned w3 b := by
  obtain ⟨w1', hr, hMI, _⟩ := h.put hi hp hm
  obtain ⟨D, ⟨es, clock, hb, F, _, _⟩, _⟩ := h
  obtain ⟨v0, st, es1, c1, h1, h2⟩ := entry_put lawZ Try.underlying80 (Try.zeroValue3) hb F (keyZ hi)
  refine ⟨v0, st, _, h1, ⟨es, clock, es1, c1, hb, rfl⟩, fun w2 hw2 => ?_⟩
  rw [heap_setBlock_same hb] at hw2
  obtain ⟨es2, c2, h3, h4⟩ := h2 w2 (.int .i64 (p : Int)) hw2
  refine ⟨_, h3, ?_, ⟨es1, c1, es2, c2, hw2, rfl⟩⟩
  rw [h4] at hr
  injection hr with _ hr
  subst hr
  exact hMI.block (by rw [heap_setBlock_same hw2, heap_setBlock_same hb])
end Go.Proofs.Ytcipgjelbnmdiaa.HP
