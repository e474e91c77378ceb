/-
  A map of ints to truth, whatever ints.
-/
import Derived.Test.YtplplkchibefjaaMkV
import Derived.Test.YtplplkchibefjaaMkS
import Derived.Maps.OwnIn
import Derived.Maps.OwnSet
import Derived.Maps.Views
import Derived.DeepKeys4
import Derived.MapViews
namespace Go.Proofs.Ytplplkchibefjaa.M5
open Go.RowKit Go.Shelf Go.Proofs.Ytplplkchibefjaa.B

def litZ (i : Int) : Lit := .int .i64 i
theorem lawZ : Maps.Keyed Try.prog 3 := Maps.int_keyed Try.underlying3
theorem keyZ {i : Int} (h : (Lit.int .i64 i).wf = true) : keyOf Try.prog 3 (.int .i64 i) = some (litZ i) := Maps.keyOf_int_mk Try.underlying3 h
theorem litZ_inj {a b : Int} (h : litZ a = litZ b) : a = b := by simpa only [litZ, Lit.int.injEq, true_and] using h
theorem litZ_key {i : Int} (h : (Lit.int .i64 i).wf = true) : WideAt.IsKeyLit (litZ i) := lawZ.key (keyZ h)
/-- Block b is a map that holds true just at the ints of which S says so (at most c). -/
def BI (w : World) (b c : Nat) (S : Int → Bool) : Prop :=
  ∃ D : DataW Unit, w.ownsMap Try.prog 3 (plainElem Try.prog 4) b c D ∧ ∀ i : Int, Maps.has D (litZ i) = S i ∧ D.atKey (litZ i) (.lit (.bool false)) = .lit (.bool (S i))
theorem BI.made (w : World) : BI (w.alloc (.map #[] 0)) w.heap.size 0 (fun _ => false) := ⟨.map [], World.ownsMap_made w _ _ _, fun _ => ⟨rfl, rfl⟩⟩
theorem BI.lt {w : World} {b c : Nat} {S : Int → Bool} (h : BI w b c S) : b < w.heap.size := by obtain ⟨D, h, _⟩ := h; exact h.lt
theorem BI.block {w w' : World} {b c : Nat} {S : Int → Bool} (h : BI w b c S) (hb : w'.heap[b]? = w.heap[b]?) : BI w' b c S := by
  obtain ⟨D, ⟨es, clock, h1, h2⟩, h3⟩ := h
  exact ⟨D, ⟨es, clock, hb.trans h1, h2⟩, h3⟩
theorem BI.below {w w' : World} {b c : Nat} {S : Int → Bool} (h : BI w b c S) (hb : Below w.heap.size w w') : BI w' b c S := h.block (hb.block b h.lt)
theorem bool_inv' {P : Program} {e : TypeId} (he : P.underlying e = some .bool) {v : Value} {x : Bool} {ps : List MemPlace} (h : plainElem (H := Unit) P e v = some (.lit (.bool x), ps)) : v = .bool x := by
  unfold plainElem at h
  rw [he] at h
  cases v <;> simp at h
  rw [h.1]
theorem BI.look {w : World} {b c : Nat} {S : Int → Bool} (h : BI w b c S) {i : Int} (hi : (Lit.int .i64 i).wf = true) : (Instr.lookup 80 (.map (some b)) (.int .i64 i) false).run Try.prog w = .ok (.bool (S i)) w := by
  obtain ⟨D, h, hf⟩ := h
  obtain ⟨v, ps, h1, h2⟩ := h.lookup lawZ Try.underlying80 (Try.zeroValue4 _) (plainElem_bool Try.underlying4 false) (keyZ hi)
  rw [(hf i).2] at h2
  rw [h1, bool_inv' Try.underlying4 h2]
theorem BI.put {w : World} {b c : Nat} {S : Int → Bool} (h : BI w b c S) {i : Int} (hi : (Lit.int .i64 i).wf = true) (hc : c < maxLen) :
    ∃ w1, (Instr.mapUpdate 80 (.map (some b)) (.int .i64 i) (.bool true)).run Try.prog w = .ok () w1 ∧ BI w1 b (c + 1) (fun j => S j || decide (j = i)) ∧ w.grownBy w1 (some b) := by
  obtain ⟨D, h, hf⟩ := h
  obtain ⟨w1, h1, h2, h3⟩ := h.update lawZ Try.underlying80 hc (keyZ hi) (plainElem_bool Try.underlying4 true)
  refine ⟨w1, h1, ⟨_, h2, fun j => ?_⟩, h3⟩
  by_cases e : j = i
  · subst e
    have hkl := litZ_key hi
    rw [Maps.has_put_same h.isMap hkl, Maps.atKey_put_same h.isMap hkl]; simp
  · have hne : litZ j ≠ litZ i := fun h => e (litZ_inj h)
    rw [Maps.has_put_other hne, Maps.atKey_put_other hne, (hf j).1, (hf j).2]
    show S j = (S j || decide (j = i)) ∧ DataW.lit (Lit.bool (S j)) = DataW.lit (Lit.bool (S j || decide (j = i)))
    rw [decide_eq_false e, Bool.or_false]
    exact ⟨rfl, rfl⟩
theorem bi_ne_own {w : World} {B e z n b m : Nat} {v : Value} {xs : List Value} {S : Int → Bool} (h : w.ownsRow B e z v n xs) (hm : BI w b m S) : v.ownBlock ≠ some b := by
  intro hb
  obtain ⟨D, ⟨es, clock, hh, _⟩, _⟩ := hm
  rcases h.2 with ⟨rfl, _⟩ | ⟨g, cap, cur, rfl, _, hg, _⟩
  · cases hb
  · cases hb; rw [hh] at hg; cases hg
theorem mkZ (w : World) : (Instr.makeMap 80 none).run Try.prog w = .ok (.map (some w.heap.size)) (w.alloc (.map #[] 0)) := by
  simp [Instr.makeMap, Result.andThen]
theorem BI.mono {w : World} {b c d : Nat} {S : Int → Bool} (h : BI w b c S) (hc : c ≤ d) : BI w b d S := by
  obtain ⟨D, h, hf⟩ := h; exact ⟨D, h.mono hc, hf⟩
theorem BI.congr {w : World} {b c : Nat} {S S' : Int → Bool} (h : BI w b c S) (e : ∀ i, S i = S' i) : BI w b c S' := by
  obtain ⟨D, h, hf⟩ := h; exact ⟨D, h, fun i => by rw [← e i]; exact hf i⟩
/-- Two markings, and a map of places, beside the graph's box. -/
structure JI (w : World) (fl : Array Value) (va : Option Addr) (n vc : Nat) (L : List Mk) (vb : Option Addr) (vd : Nat) (N : List Mk) (B c : Nat) (S : Int → Bool) (W : World) : Prop where
  l : LF w fl W
  o : W.ownsRow w.heap.size 77 3 (.slice va n vc) n (L.flatMap mkC)
  p : W.ownsRow w.heap.size 77 3 (.slice vb n vd) n (N.flatMap mkC)
  m : BI W B c S
  h : w.heap.size < B
section
variable {w W W' : World} {fl : Array Value} {va vb : Option Addr} {n vc vd B c d : Nat} {L N : List Mk} {S S' : Int → Bool}
theorem JI.call (h : JI w fl va n vc L vb vd N B c S W) (hb : Below W.heap.size W W') : JI w fl va n vc L vb vd N B c S W' := ⟨h.l.call hb, own_below h.o hb, own_below h.p hb, h.m.below hb, h.h⟩
theorem JI.alloc (h : JI w fl va n vc L vb vd N B c S W) (o : Obj) : JI w fl va n vc L vb vd N B c S (W.alloc o) := h.call ((Below.refl _ _).alloc (Nat.le_refl _) _)
theorem JI.drewN (h : JI w fl va n vc L vb vd N B c S W) (k : Nat) : JI w fl va n vc L vb vd N B c S (W.drewN k) := h.call (below_draws (Below.refl _ _) k)
theorem JI.mono (h : JI w fl va n vc L vb vd N B c S W) (hc : c ≤ d) : JI w fl va n vc L vb vd N B d S W := ⟨h.l, h.o, h.p, h.m.mono hc, h.h⟩
theorem JI.congr (h : JI w fl va n vc L vb vd N B c S W) (e : ∀ i, S i = S' i) : JI w fl va n vc L vb vd N B c S' W := ⟨h.l, h.o, h.p, h.m.congr e, h.h⟩
theorem JI.put (h : JI w fl va n vc L vb vd N B c S W) {i : Int} (hi : (Lit.int .i64 i).wf = true) (hc : c < maxLen) :
    ∃ W', (Instr.mapUpdate 80 (.map (some B)) (.int .i64 i) (.bool true)).run Try.prog W = .ok () W' ∧ JI w fl va n vc L vb vd N B (c + 1) (fun j => S j || decide (j = i)) W' := by
  obtain ⟨W', h1, h2, h3⟩ := h.m.put hi hc
  have hl := h.l.lt
  have hh := h.h
  refine ⟨W', h1, ⟨h.l.b.grown h3 (Nat.le_of_lt hl) (fun k e => by cases e; omega), (h3.block _ hl (fun e => by injection e with e; omega)).trans h.l.f⟩, h.o.kept h3 (.inr (bi_ne_own h.o h.m)), h.p.kept h3 (.inr (bi_ne_own h.p h.m)), h2, hh⟩
end
end Go.Proofs.Ytplplkchibefjaa.M5
