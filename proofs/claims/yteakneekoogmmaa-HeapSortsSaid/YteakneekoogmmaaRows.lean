/-
  No cell of these rows narrows 'for every input' (looked for: loops, veiled, ifaces, maps, wideKeys, modest, calm, conditions, laid).
  DERIVED. THE GIVEN ROWS OF THIS SEAT. 4 by the template 'for every input the law returns true; each argument reads behind the call as it read before'; 0 by the template 'total and deterministic' (their statements: YteakneekoogmmaaTotals.lean).
  GIVEN WITH THE SEED: the statements are not yours to turn. If you find one false, say at which input.
  Laid BY PROGRAM, IN A SANDBOX (cutbox-rows.mjs): the forced cells as the released guide's own fill.sh prints them over the translation 9ce0c63b4936582f… (all of the seat's roots in one cut). By AI agents, Wed Nov 11 2026. No macro, syntax, notation, axiom, sorry.
-/
import Derived.Test.YteakneekoogmmaaChecked
import GoSem.Claim
import GoSem.ClaimJoined
import GoSem.ClaimMapViews
import Derived.JoinedTies
import Derived.KernelRfl
namespace Go.Proofs.Yteakneekoogmmaa
/- THE CELL 'sum', in the pinned program and in every row, IS THE sha256 OF THE DUMP (.gsa) THAT YteakneekoogmmaaProg.lean LOADS. Nothing in Lean hashes anything: it is a label: what it is worth is what the hold of that sum in a sandbox is worth. -/
noncomputable def Try.pinned : Pinned := { name := "yteakneekoogmmaa", sum := "9ce0c63b4936582f38354619cb446ca6d492bcb0ac3bc04b6cecacc35187d6d8", checked := Try.checked }
namespace Rows
def none {H : Type} : Left H := { results := [], args := [] }

/-- 'replevinlaw09.HeapDoes': WHATEVER THE INPUT: true; the input reads as it did. -/
def heapDoesSpec : ChangeSpec := { name := "heapDoes", fn := fun _ => fun
  | [d1, d2, d3] => { results := [.lit (.bool true)], args := [d1, d2, d3] }
  | _ => none }
def heapDoesRow : OpenClaim := { program := "yteakneekoogmmaa", sum := "9ce0c63b4936582f38354619cb446ca6d492bcb0ac3bc04b6cecacc35187d6d8", func := "replevin/replevinlaw09.HeapDoes", spec := "heapDoes", unfollowed := true, recurses := true, apart := false }
def HeapDoesSaid : Prop := heapDoesRow.holds Try.pinned (OpenSpec.ofChange heapDoesSpec)

/-- ITS FALSE NEIGHBOUR: 'it returns false'. Refute it at one input. -/
def heapDoesWrong : ChangeSpec := { name := "heapDoes", fn := fun _ => fun
  | [d1, d2, d3] => { results := [.lit (.bool false)], args := [d1, d2, d3] }
  | _ => none }
def HeapDoesWrongFalsely : Prop := heapDoesRow.holds Try.pinned (OpenSpec.ofChange heapDoesWrong)

/-- 'replevinlaw09.HeapSorts': WHATEVER THE INPUT: true; the input reads as it did. -/
def heapSortsSpec : ChangeSpec := { name := "heapSorts", fn := fun _ => fun
  | [d1, d2, d3] => { results := [.lit (.bool true)], args := [d1, d2, d3] }
  | _ => none }
def heapSortsRow : OpenClaim := { program := "yteakneekoogmmaa", sum := "9ce0c63b4936582f38354619cb446ca6d492bcb0ac3bc04b6cecacc35187d6d8", func := "replevin/replevinlaw09.HeapSorts", spec := "heapSorts", unfollowed := true, recurses := true, apart := false }
def HeapSortsSaid : Prop := heapSortsRow.holds Try.pinned (OpenSpec.ofChange heapSortsSpec)

/-- ITS FALSE NEIGHBOUR: 'it returns false'. Refute it at one input. -/
def heapSortsWrong : ChangeSpec := { name := "heapSorts", fn := fun _ => fun
  | [d1, d2, d3] => { results := [.lit (.bool false)], args := [d1, d2, d3] }
  | _ => none }
def HeapSortsWrongFalsely : Prop := heapSortsRow.holds Try.pinned (OpenSpec.ofChange heapSortsWrong)

/-- 'replevinlaw09.HeapAges': WHATEVER THE INPUT: true; the input reads as it did. -/
def heapAgesSpec : ChangeSpec := { name := "heapAges", fn := fun _ => fun
  | [d1, d2, d3] => { results := [.lit (.bool true)], args := [d1, d2, d3] }
  | _ => none }
def heapAgesRow : OpenClaim := { program := "yteakneekoogmmaa", sum := "9ce0c63b4936582f38354619cb446ca6d492bcb0ac3bc04b6cecacc35187d6d8", func := "replevin/replevinlaw09.HeapAges", spec := "heapAges", unfollowed := true, recurses := true, apart := false }
def HeapAgesSaid : Prop := heapAgesRow.holds Try.pinned (OpenSpec.ofChange heapAgesSpec)

/-- ITS FALSE NEIGHBOUR: 'it returns false'. Refute it at one input. -/
def heapAgesWrong : ChangeSpec := { name := "heapAges", fn := fun _ => fun
  | [d1, d2, d3] => { results := [.lit (.bool false)], args := [d1, d2, d3] }
  | _ => none }
def HeapAgesWrongFalsely : Prop := heapAgesRow.holds Try.pinned (OpenSpec.ofChange heapAgesWrong)

/-- 'replevinlaw09.HeapRests': WHATEVER THE INPUT: true; the input reads as it did. -/
def heapRestsSpec : ChangeSpec := { name := "heapRests", fn := fun _ => fun
  | [d1, d2, d3] => { results := [.lit (.bool true)], args := [d1, d2, d3] }
  | _ => none }
def heapRestsRow : OpenClaim := { program := "yteakneekoogmmaa", sum := "9ce0c63b4936582f38354619cb446ca6d492bcb0ac3bc04b6cecacc35187d6d8", func := "replevin/replevinlaw09.HeapRests", spec := "heapRests", unfollowed := true, recurses := true, apart := false }
def HeapRestsSaid : Prop := heapRestsRow.holds Try.pinned (OpenSpec.ofChange heapRestsSpec)

/-- ITS FALSE NEIGHBOUR: 'it returns false'. Refute it at one input. -/
def heapRestsWrong : ChangeSpec := { name := "heapRests", fn := fun _ => fun
  | [d1, d2, d3] => { results := [.lit (.bool false)], args := [d1, d2, d3] }
  | _ => none }
def HeapRestsWrongFalsely : Prop := heapRestsRow.holds Try.pinned (OpenSpec.ofChange heapRestsWrong)

/- THE SECOND FORM. 'bulk': how many values and letters a reading holds, each counted each time it is reached (what is shared counts as often as it is met; a slice's spare places count too). A statement '..UptoSaid' is the law's where the arguments, and the package variables that the reading takes, are together of bulk at most 1048576: NARROWER than '..Said'. Prove '..Said' where nothing that the law and all that it calls make is longer than what came in: it says more and counts as full. Else prove '..UptoSaid'. A law counts once. -/
mutual
def uptoBulk {H : Type} : DataW H → Nat
  | .lit (.string bytes) => bytes.length + 1
  | .lit _ => 1
  | .nil => 1
  | .ptr d => uptoBulk d + 1
  | .slice elems spare => uptoBulkAll elems + uptoBulkAll spare + 1
  | .agg parts => uptoBulkAll parts + 1
  | .iface _ d => uptoBulk d + 1
  | .map entries => uptoBulkEntries entries + 1
  | .held _ => 1
def uptoBulkAll {H : Type} : List (DataW H) → Nat
  | [] => 0
  | d :: r => uptoBulk d + uptoBulkAll r
def uptoBulkEntries {H : Type} : List (Lit × DataW H) → Nat
  | [] => 0
  | x :: r => uptoBulkEntry x + uptoBulkEntries r
def uptoBulkEntry {H : Type} : Lit × DataW H → Nat
  | (.string bytes, d) => bytes.length + uptoBulk d + 1
  | (_, d) => uptoBulk d + 1
 end
def uptoSmall : (H : Type) → List (DataW H) → Bool := fun _ ds => decide (uptoBulkAll ds ≤ 1048576)
def OpenSpec.upto (s : _root_.Go.ChangeSpec) : _root_.Go.OpenSpec := { _root_.Go.OpenSpec.ofChange s with cond := some uptoSmall }

/-- 'replevinlaw09.HeapDoes', WHERE WHAT IT READS IS OF BULK AT MOST 1048576: true; the input reads as it did. -/
def heapDoesUptoRow : OpenClaim := { program := "yteakneekoogmmaa", sum := "9ce0c63b4936582f38354619cb446ca6d492bcb0ac3bc04b6cecacc35187d6d8", func := "replevin/replevinlaw09.HeapDoes", spec := "heapDoes", unfollowed := true, recurses := true, apart := false, narrowed := true }
def HeapDoesUptoSaid : Prop := heapDoesUptoRow.holds Try.pinned (OpenSpec.upto heapDoesSpec)

/-- 'replevinlaw09.HeapSorts', WHERE WHAT IT READS IS OF BULK AT MOST 1048576: true; the input reads as it did. -/
def heapSortsUptoRow : OpenClaim := { program := "yteakneekoogmmaa", sum := "9ce0c63b4936582f38354619cb446ca6d492bcb0ac3bc04b6cecacc35187d6d8", func := "replevin/replevinlaw09.HeapSorts", spec := "heapSorts", unfollowed := true, recurses := true, apart := false, narrowed := true }
def HeapSortsUptoSaid : Prop := heapSortsUptoRow.holds Try.pinned (OpenSpec.upto heapSortsSpec)

/-- 'replevinlaw09.HeapAges', WHERE WHAT IT READS IS OF BULK AT MOST 1048576: true; the input reads as it did. -/
def heapAgesUptoRow : OpenClaim := { program := "yteakneekoogmmaa", sum := "9ce0c63b4936582f38354619cb446ca6d492bcb0ac3bc04b6cecacc35187d6d8", func := "replevin/replevinlaw09.HeapAges", spec := "heapAges", unfollowed := true, recurses := true, apart := false, narrowed := true }
def HeapAgesUptoSaid : Prop := heapAgesUptoRow.holds Try.pinned (OpenSpec.upto heapAgesSpec)

/-- 'replevinlaw09.HeapRests', WHERE WHAT IT READS IS OF BULK AT MOST 1048576: true; the input reads as it did. -/
def heapRestsUptoRow : OpenClaim := { program := "yteakneekoogmmaa", sum := "9ce0c63b4936582f38354619cb446ca6d492bcb0ac3bc04b6cecacc35187d6d8", func := "replevin/replevinlaw09.HeapRests", spec := "heapRests", unfollowed := true, recurses := true, apart := false, narrowed := true }
def HeapRestsUptoSaid : Prop := heapRestsUptoRow.holds Try.pinned (OpenSpec.upto heapRestsSpec)

end Rows
end Go.Proofs.Yteakneekoogmmaa
