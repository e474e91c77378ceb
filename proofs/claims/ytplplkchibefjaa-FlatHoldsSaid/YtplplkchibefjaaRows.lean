/-
  No cell of these rows narrows 'for every input' (looked for: loops, veiled, ifaces, maps, wideKeys, modest, calm, conditions, laid).
  DERIVED. THE GIVEN ROWS OF THIS SEAT. 10 by the template 'for every input the law returns true; each argument reads behind the call as it read before'; 0 by the template 'total and deterministic' (their statements: YtplplkchibefjaaTotals.lean).
  GIVEN WITH THE SEED: the statements are not yours to turn. If you find one false, say at which input.
  Laid BY PROGRAM, IN A SANDBOX (cutbox-rows.mjs): the forced cells as the released guide's own fill.sh prints them over the translation 4a0c7ae7ac842a72… (all of the seat's roots in one cut). By AI agents, Wed Nov 11 2026. No macro, syntax, notation, axiom, sorry.
-/
import Derived.Test.YtplplkchibefjaaChecked
import GoSem.Claim
import GoSem.ClaimJoined
import GoSem.ClaimMapViews
import Derived.JoinedTies
import Derived.KernelRfl
namespace Go.Proofs.Ytplplkchibefjaa
/- THE CELL 'sum', in the pinned program and in every row, IS THE sha256 OF THE DUMP (.gsa) THAT YtplplkchibefjaaProg.lean LOADS. Nothing in Lean hashes anything: it is a label: what it is worth is what the hold of that sum in a sandbox is worth. -/
noncomputable def Try.pinned : Pinned := { name := "ytplplkchibefjaa", sum := "4a0c7ae7ac842a72dc2257594a79d4201d41c2cba2b285d47eb7b53bbd32e6da", checked := Try.checked }
namespace Rows
def none {H : Type} : Left H := { results := [], args := [] }

/-- 'replevinlaw04.FlatMakes': WHATEVER THE INPUT: true; the input reads as it did. -/
def flatMakesSpec : ChangeSpec := { name := "flatMakes", fn := fun _ => fun
  | [d] => { results := [.lit (.bool true)], args := [d] }
  | _ => none }
def flatMakesRow : OpenClaim := { program := "ytplplkchibefjaa", sum := "4a0c7ae7ac842a72dc2257594a79d4201d41c2cba2b285d47eb7b53bbd32e6da", func := "replevin/replevinlaw04.FlatMakes", spec := "flatMakes", unfollowed := true, recurses := true, plainKeys := false, apart := false }
def FlatMakesSaid : Prop := flatMakesRow.holds Try.pinned (OpenSpec.ofChange flatMakesSpec)

/-- ITS FALSE NEIGHBOUR: 'it returns false'. Refute it at one input. -/
def flatMakesWrong : ChangeSpec := { name := "flatMakes", fn := fun _ => fun
  | [d] => { results := [.lit (.bool false)], args := [d] }
  | _ => none }
def FlatMakesWrongFalsely : Prop := flatMakesRow.holds Try.pinned (OpenSpec.ofChange flatMakesWrong)

/-- 'replevinlaw04.FlatAgain': WHATEVER THE INPUT: true; the input reads as it did. -/
def flatAgainSpec : ChangeSpec := { name := "flatAgain", fn := fun _ => fun
  | [d] => { results := [.lit (.bool true)], args := [d] }
  | _ => none }
def flatAgainRow : OpenClaim := { program := "ytplplkchibefjaa", sum := "4a0c7ae7ac842a72dc2257594a79d4201d41c2cba2b285d47eb7b53bbd32e6da", func := "replevin/replevinlaw04.FlatAgain", spec := "flatAgain", unfollowed := true, recurses := true, plainKeys := false, apart := false }
def FlatAgainSaid : Prop := flatAgainRow.holds Try.pinned (OpenSpec.ofChange flatAgainSpec)

/-- ITS FALSE NEIGHBOUR: 'it returns false'. Refute it at one input. -/
def flatAgainWrong : ChangeSpec := { name := "flatAgain", fn := fun _ => fun
  | [d] => { results := [.lit (.bool false)], args := [d] }
  | _ => none }
def FlatAgainWrongFalsely : Prop := flatAgainRow.holds Try.pinned (OpenSpec.ofChange flatAgainWrong)

/-- 'replevinlaw04.FlatHolds': WHATEVER THE INPUT: true; the input reads as it did. -/
def flatHoldsSpec : ChangeSpec := { name := "flatHolds", fn := fun _ => fun
  | [d] => { results := [.lit (.bool true)], args := [d] }
  | _ => none }
def flatHoldsRow : OpenClaim := { program := "ytplplkchibefjaa", sum := "4a0c7ae7ac842a72dc2257594a79d4201d41c2cba2b285d47eb7b53bbd32e6da", func := "replevin/replevinlaw04.FlatHolds", spec := "flatHolds", unfollowed := true, recurses := true, plainKeys := false, apart := false }
def FlatHoldsSaid : Prop := flatHoldsRow.holds Try.pinned (OpenSpec.ofChange flatHoldsSpec)

/-- ITS FALSE NEIGHBOUR: 'it returns false'. Refute it at one input. -/
def flatHoldsWrong : ChangeSpec := { name := "flatHolds", fn := fun _ => fun
  | [d] => { results := [.lit (.bool false)], args := [d] }
  | _ => none }
def FlatHoldsWrongFalsely : Prop := flatHoldsRow.holds Try.pinned (OpenSpec.ofChange flatHoldsWrong)

/-- 'replevinlaw04.FlatParts': WHATEVER THE INPUT: true; the input reads as it did. -/
def flatPartsSpec : ChangeSpec := { name := "flatParts", fn := fun _ => fun
  | [d] => { results := [.lit (.bool true)], args := [d] }
  | _ => none }
def flatPartsRow : OpenClaim := { program := "ytplplkchibefjaa", sum := "4a0c7ae7ac842a72dc2257594a79d4201d41c2cba2b285d47eb7b53bbd32e6da", func := "replevin/replevinlaw04.FlatParts", spec := "flatParts", unfollowed := true, recurses := true, plainKeys := false, apart := false }
def FlatPartsSaid : Prop := flatPartsRow.holds Try.pinned (OpenSpec.ofChange flatPartsSpec)

/-- ITS FALSE NEIGHBOUR: 'it returns false'. Refute it at one input. -/
def flatPartsWrong : ChangeSpec := { name := "flatParts", fn := fun _ => fun
  | [d] => { results := [.lit (.bool false)], args := [d] }
  | _ => none }
def FlatPartsWrongFalsely : Prop := flatPartsRow.holds Try.pinned (OpenSpec.ofChange flatPartsWrong)

/-- 'replevinlaw05.MarkTells': WHATEVER THE INPUT: true; the input reads as it did. -/
def markTellsSpec : ChangeSpec := { name := "markTells", fn := fun _ => fun
  | [d1, d2, d3] => { results := [.lit (.bool true)], args := [d1, d2, d3] }
  | _ => none }
def markTellsRow : OpenClaim := { program := "ytplplkchibefjaa", sum := "4a0c7ae7ac842a72dc2257594a79d4201d41c2cba2b285d47eb7b53bbd32e6da", func := "replevin/replevinlaw05.MarkTells", spec := "markTells", unfollowed := true, recurses := true, plainKeys := false, apart := false }
def MarkTellsSaid : Prop := markTellsRow.holds Try.pinned (OpenSpec.ofChange markTellsSpec)

/-- ITS FALSE NEIGHBOUR: 'it returns false'. Refute it at one input. -/
def markTellsWrong : ChangeSpec := { name := "markTells", fn := fun _ => fun
  | [d1, d2, d3] => { results := [.lit (.bool false)], args := [d1, d2, d3] }
  | _ => none }
def MarkTellsWrongFalsely : Prop := markTellsRow.holds Try.pinned (OpenSpec.ofChange markTellsWrong)

/-- 'replevinlaw05.MarkDoes': WHATEVER THE INPUT: true; the input reads as it did. -/
def markDoesSpec : ChangeSpec := { name := "markDoes", fn := fun _ => fun
  | [d1, d2, d3] => { results := [.lit (.bool true)], args := [d1, d2, d3] }
  | _ => none }
def markDoesRow : OpenClaim := { program := "ytplplkchibefjaa", sum := "4a0c7ae7ac842a72dc2257594a79d4201d41c2cba2b285d47eb7b53bbd32e6da", func := "replevin/replevinlaw05.MarkDoes", spec := "markDoes", unfollowed := true, recurses := true, plainKeys := false, apart := false }
def MarkDoesSaid : Prop := markDoesRow.holds Try.pinned (OpenSpec.ofChange markDoesSpec)

/-- ITS FALSE NEIGHBOUR: 'it returns false'. Refute it at one input. -/
def markDoesWrong : ChangeSpec := { name := "markDoes", fn := fun _ => fun
  | [d1, d2, d3] => { results := [.lit (.bool false)], args := [d1, d2, d3] }
  | _ => none }
def MarkDoesWrongFalsely : Prop := markDoesRow.holds Try.pinned (OpenSpec.ofChange markDoesWrong)

/-- 'replevinlaw05.MarkFits': WHATEVER THE INPUT: true; the input reads as it did. -/
def markFitsSpec : ChangeSpec := { name := "markFits", fn := fun _ => fun
  | [d1, d2] => { results := [.lit (.bool true)], args := [d1, d2] }
  | _ => none }
def markFitsRow : OpenClaim := { program := "ytplplkchibefjaa", sum := "4a0c7ae7ac842a72dc2257594a79d4201d41c2cba2b285d47eb7b53bbd32e6da", func := "replevin/replevinlaw05.MarkFits", spec := "markFits", unfollowed := true, recurses := true, plainKeys := false, apart := false }
def MarkFitsSaid : Prop := markFitsRow.holds Try.pinned (OpenSpec.ofChange markFitsSpec)

/-- ITS FALSE NEIGHBOUR: 'it returns false'. Refute it at one input. -/
def markFitsWrong : ChangeSpec := { name := "markFits", fn := fun _ => fun
  | [d1, d2] => { results := [.lit (.bool false)], args := [d1, d2] }
  | _ => none }
def MarkFitsWrongFalsely : Prop := markFitsRow.holds Try.pinned (OpenSpec.ofChange markFitsWrong)

/-- 'replevinlaw05.MarkStays': WHATEVER THE INPUT: true; the input reads as it did. -/
def markStaysSpec : ChangeSpec := { name := "markStays", fn := fun _ => fun
  | [d1, d2, d3] => { results := [.lit (.bool true)], args := [d1, d2, d3] }
  | _ => none }
def markStaysRow : OpenClaim := { program := "ytplplkchibefjaa", sum := "4a0c7ae7ac842a72dc2257594a79d4201d41c2cba2b285d47eb7b53bbd32e6da", func := "replevin/replevinlaw05.MarkStays", spec := "markStays", unfollowed := true, recurses := true, plainKeys := false, apart := false }
def MarkStaysSaid : Prop := markStaysRow.holds Try.pinned (OpenSpec.ofChange markStaysSpec)

/-- ITS FALSE NEIGHBOUR: 'it returns false'. Refute it at one input. -/
def markStaysWrong : ChangeSpec := { name := "markStays", fn := fun _ => fun
  | [d1, d2, d3] => { results := [.lit (.bool false)], args := [d1, d2, d3] }
  | _ => none }
def MarkStaysWrongFalsely : Prop := markStaysRow.holds Try.pinned (OpenSpec.ofChange markStaysWrong)

/-- 'replevinlaw05.MarkTicks': WHATEVER THE INPUT: true; the input reads as it did. -/
def markTicksSpec : ChangeSpec := { name := "markTicks", fn := fun _ => fun
  | [d1, d2] => { results := [.lit (.bool true)], args := [d1, d2] }
  | _ => none }
def markTicksRow : OpenClaim := { program := "ytplplkchibefjaa", sum := "4a0c7ae7ac842a72dc2257594a79d4201d41c2cba2b285d47eb7b53bbd32e6da", func := "replevin/replevinlaw05.MarkTicks", spec := "markTicks", unfollowed := true, recurses := true, plainKeys := false, apart := false }
def MarkTicksSaid : Prop := markTicksRow.holds Try.pinned (OpenSpec.ofChange markTicksSpec)

/-- ITS FALSE NEIGHBOUR: 'it returns false'. Refute it at one input. -/
def markTicksWrong : ChangeSpec := { name := "markTicks", fn := fun _ => fun
  | [d1, d2] => { results := [.lit (.bool false)], args := [d1, d2] }
  | _ => none }
def MarkTicksWrongFalsely : Prop := markTicksRow.holds Try.pinned (OpenSpec.ofChange markTicksWrong)

/-- 'replevinlaw05.MarkFree': WHATEVER THE INPUT: true; the input reads as it did. -/
def markFreeSpec : ChangeSpec := { name := "markFree", fn := fun _ => fun
  | [d1, d2] => { results := [.lit (.bool true)], args := [d1, d2] }
  | _ => none }
def markFreeRow : OpenClaim := { program := "ytplplkchibefjaa", sum := "4a0c7ae7ac842a72dc2257594a79d4201d41c2cba2b285d47eb7b53bbd32e6da", func := "replevin/replevinlaw05.MarkFree", spec := "markFree", unfollowed := true, recurses := true, plainKeys := false, apart := false }
def MarkFreeSaid : Prop := markFreeRow.holds Try.pinned (OpenSpec.ofChange markFreeSpec)

/-- ITS FALSE NEIGHBOUR: 'it returns false'. Refute it at one input. -/
def markFreeWrong : ChangeSpec := { name := "markFree", fn := fun _ => fun
  | [d1, d2] => { results := [.lit (.bool false)], args := [d1, d2] }
  | _ => none }
def MarkFreeWrongFalsely : Prop := markFreeRow.holds Try.pinned (OpenSpec.ofChange markFreeWrong)

/- THE SECOND FORM. 'bulk': how many values and letters a reading holds, each counted each time it is reached (what is shared counts as often as it is met; a slice's spare places count too). A statement '..UptoSaid' is the law's where the arguments, and the package variables that the reading takes, are together of bulk at most 1048576: NARROWER than '..Said'. Prove '..Said' where nothing that the law and all that it calls make is longer than what came in: it says more and counts as full. Else prove '..UptoSaid'. A law counts once. -/
mutual
def uptoBulk {H : Type} : DataW H → Nat
  | .lit (.string bytes) => bytes.length + 1
  | .lit _ => 1
  | .nil => 1
  | .ptr d => uptoBulk d + 1
  | .slice elems spare => uptoBulkAll elems + uptoBulkAll spare + 1
  | .agg parts => uptoBulkAll parts + 1
  | .iface _ d => uptoBulk d + 1
  | .map entries => uptoBulkEntries entries + 1
  | .held _ => 1
def uptoBulkAll {H : Type} : List (DataW H) → Nat
  | [] => 0
  | d :: r => uptoBulk d + uptoBulkAll r
def uptoBulkEntries {H : Type} : List (Lit × DataW H) → Nat
  | [] => 0
  | x :: r => uptoBulkEntry x + uptoBulkEntries r
def uptoBulkEntry {H : Type} : Lit × DataW H → Nat
  | (.string bytes, d) => bytes.length + uptoBulk d + 1
  | (_, d) => uptoBulk d + 1
 end
def uptoSmall : (H : Type) → List (DataW H) → Bool := fun _ ds => decide (uptoBulkAll ds ≤ 1048576)
def OpenSpec.upto (s : _root_.Go.ChangeSpec) : _root_.Go.OpenSpec := { _root_.Go.OpenSpec.ofChange s with cond := some uptoSmall }

/-- 'replevinlaw04.FlatMakes', WHERE WHAT IT READS IS OF BULK AT MOST 1048576: true; the input reads as it did. -/
def flatMakesUptoRow : OpenClaim := { program := "ytplplkchibefjaa", sum := "4a0c7ae7ac842a72dc2257594a79d4201d41c2cba2b285d47eb7b53bbd32e6da", func := "replevin/replevinlaw04.FlatMakes", spec := "flatMakes", unfollowed := true, recurses := true, plainKeys := false, apart := false, narrowed := true }
def FlatMakesUptoSaid : Prop := flatMakesUptoRow.holds Try.pinned (OpenSpec.upto flatMakesSpec)

/-- 'replevinlaw04.FlatAgain', WHERE WHAT IT READS IS OF BULK AT MOST 1048576: true; the input reads as it did. -/
def flatAgainUptoRow : OpenClaim := { program := "ytplplkchibefjaa", sum := "4a0c7ae7ac842a72dc2257594a79d4201d41c2cba2b285d47eb7b53bbd32e6da", func := "replevin/replevinlaw04.FlatAgain", spec := "flatAgain", unfollowed := true, recurses := true, plainKeys := false, apart := false, narrowed := true }
def FlatAgainUptoSaid : Prop := flatAgainUptoRow.holds Try.pinned (OpenSpec.upto flatAgainSpec)

/-- 'replevinlaw04.FlatHolds', WHERE WHAT IT READS IS OF BULK AT MOST 1048576: true; the input reads as it did. -/
def flatHoldsUptoRow : OpenClaim := { program := "ytplplkchibefjaa", sum := "4a0c7ae7ac842a72dc2257594a79d4201d41c2cba2b285d47eb7b53bbd32e6da", func := "replevin/replevinlaw04.FlatHolds", spec := "flatHolds", unfollowed := true, recurses := true, plainKeys := false, apart := false, narrowed := true }
def FlatHoldsUptoSaid : Prop := flatHoldsUptoRow.holds Try.pinned (OpenSpec.upto flatHoldsSpec)

/-- 'replevinlaw04.FlatParts', WHERE WHAT IT READS IS OF BULK AT MOST 1048576: true; the input reads as it did. -/
def flatPartsUptoRow : OpenClaim := { program := "ytplplkchibefjaa", sum := "4a0c7ae7ac842a72dc2257594a79d4201d41c2cba2b285d47eb7b53bbd32e6da", func := "replevin/replevinlaw04.FlatParts", spec := "flatParts", unfollowed := true, recurses := true, plainKeys := false, apart := false, narrowed := true }
def FlatPartsUptoSaid : Prop := flatPartsUptoRow.holds Try.pinned (OpenSpec.upto flatPartsSpec)

/-- 'replevinlaw05.MarkTells', WHERE WHAT IT READS IS OF BULK AT MOST 1048576: true; the input reads as it did. -/
def markTellsUptoRow : OpenClaim := { program := "ytplplkchibefjaa", sum := "4a0c7ae7ac842a72dc2257594a79d4201d41c2cba2b285d47eb7b53bbd32e6da", func := "replevin/replevinlaw05.MarkTells", spec := "markTells", unfollowed := true, recurses := true, plainKeys := false, apart := false, narrowed := true }
def MarkTellsUptoSaid : Prop := markTellsUptoRow.holds Try.pinned (OpenSpec.upto markTellsSpec)

/-- 'replevinlaw05.MarkDoes', WHERE WHAT IT READS IS OF BULK AT MOST 1048576: true; the input reads as it did. -/
def markDoesUptoRow : OpenClaim := { program := "ytplplkchibefjaa", sum := "4a0c7ae7ac842a72dc2257594a79d4201d41c2cba2b285d47eb7b53bbd32e6da", func := "replevin/replevinlaw05.MarkDoes", spec := "markDoes", unfollowed := true, recurses := true, plainKeys := false, apart := false, narrowed := true }
def MarkDoesUptoSaid : Prop := markDoesUptoRow.holds Try.pinned (OpenSpec.upto markDoesSpec)

/-- 'replevinlaw05.MarkFits', WHERE WHAT IT READS IS OF BULK AT MOST 1048576: true; the input reads as it did. -/
def markFitsUptoRow : OpenClaim := { program := "ytplplkchibefjaa", sum := "4a0c7ae7ac842a72dc2257594a79d4201d41c2cba2b285d47eb7b53bbd32e6da", func := "replevin/replevinlaw05.MarkFits", spec := "markFits", unfollowed := true, recurses := true, plainKeys := false, apart := false, narrowed := true }
def MarkFitsUptoSaid : Prop := markFitsUptoRow.holds Try.pinned (OpenSpec.upto markFitsSpec)

/-- 'replevinlaw05.MarkStays', WHERE WHAT IT READS IS OF BULK AT MOST 1048576: true; the input reads as it did. -/
def markStaysUptoRow : OpenClaim := { program := "ytplplkchibefjaa", sum := "4a0c7ae7ac842a72dc2257594a79d4201d41c2cba2b285d47eb7b53bbd32e6da", func := "replevin/replevinlaw05.MarkStays", spec := "markStays", unfollowed := true, recurses := true, plainKeys := false, apart := false, narrowed := true }
def MarkStaysUptoSaid : Prop := markStaysUptoRow.holds Try.pinned (OpenSpec.upto markStaysSpec)

/-- 'replevinlaw05.MarkTicks', WHERE WHAT IT READS IS OF BULK AT MOST 1048576: true; the input reads as it did. -/
def markTicksUptoRow : OpenClaim := { program := "ytplplkchibefjaa", sum := "4a0c7ae7ac842a72dc2257594a79d4201d41c2cba2b285d47eb7b53bbd32e6da", func := "replevin/replevinlaw05.MarkTicks", spec := "markTicks", unfollowed := true, recurses := true, plainKeys := false, apart := false, narrowed := true }
def MarkTicksUptoSaid : Prop := markTicksUptoRow.holds Try.pinned (OpenSpec.upto markTicksSpec)

/-- 'replevinlaw05.MarkFree', WHERE WHAT IT READS IS OF BULK AT MOST 1048576: true; the input reads as it did. -/
def markFreeUptoRow : OpenClaim := { program := "ytplplkchibefjaa", sum := "4a0c7ae7ac842a72dc2257594a79d4201d41c2cba2b285d47eb7b53bbd32e6da", func := "replevin/replevinlaw05.MarkFree", spec := "markFree", unfollowed := true, recurses := true, plainKeys := false, apart := false, narrowed := true }
def MarkFreeUptoSaid : Prop := markFreeUptoRow.holds Try.pinned (OpenSpec.upto markFreeSpec)

end Rows
end Go.Proofs.Ytplplkchibefjaa
