/-
  Ties as they lie in memory; no program.
-/
import Derived.Test.YthbleofighjjgaaGrM
namespace Go.Proofs.Ythbleofighjjgaa
open Go.RowKit

/-- A tie. -/
structure Ti where
  kind : Int
  fr : Int
  to : Int
  time : Int
deriving DecidableEq
instance : Inhabited Ti := ⟨⟨0, 0, 0, 0⟩⟩
def tiC (t : Ti) : List Value := [.int .i64 t.kind, .int .i64 t.fr, .int .i64 t.to, .int .i64 t.time]
def tiV (t : Ti) : Value := .agg #[.int .i64 t.kind, .int .i64 t.fr, .int .i64 t.to, .int .i64 t.time]
end Go.Proofs.Ythbleofighjjgaa
