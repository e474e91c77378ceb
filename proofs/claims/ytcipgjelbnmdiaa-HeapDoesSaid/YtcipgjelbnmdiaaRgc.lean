/-
  A region that draws its order, walked once in the order of the text, over a class of worlds: its callees may make memory, so long as they stay in the class.
-/
import Derived.Test.YtcipgjelbnmdiaaBas
import Derived.BigQuiet
import Derived.Deep.Quiet
namespace Go.Proofs.Ytcipgjelbnmdiaa.B
open Go.RowKit Go.Shelf

/-- A world of a class. -/
structure WIn (CC : World → Prop) where
  w : World
  h : CC w
theorem wp_region_class {P : Program} {id : Nat} {Q : Exit → Act → World → Prop} {a : Act} {w : World} {l : List Oper} (CC : World → Prop) (hm : P.follows .mixedOrders = true) (hB : Region.lexB .any l.toArray = true) (h0 : CC w.drew)
    (h : wpQuiet P l.toArray (fun w' => ∃ x : WIn CC, w' = x.w) (fun a' => ∀ w', (∃ x : WIn CC, w' = x.w) → Q .normal a' w') l a) : (Code.region id l.toArray true).wp P Q a w :=
  wp_region_quiet (C := fun w' => ∃ x : WIn CC, w' = x.w) hm hB ⟨⟨_, h0⟩, rfl⟩ (by simpa using h)
/-- A callee's contract that leaves the class as it is. -/
theorem class_call {P : Program} {f : FuncId} {args : Array Value} {CC : World → Prop} {v : Value} (hC : ∀ W W', CC W → Below W.heap.size W W' → CC W')
    (h : ∀ W, CC W → Calls P f args W fun e w' => e = .returned v ∧ Below W.heap.size W w') : ∀ x : WIn CC, Calls P f args x.w fun e w'' => e = .returned v ∧ ∃ y : WIn CC, w'' = y.w :=
  fun x => (h x.w x.h).mono fun _ _ ⟨he, hb⟩ => ⟨he, ⟨_, hC _ _ x.h hb⟩, rfl⟩
end Go.Proofs.Ytcipgjelbnmdiaa.B
