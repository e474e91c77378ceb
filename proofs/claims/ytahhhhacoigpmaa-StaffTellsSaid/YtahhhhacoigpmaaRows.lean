/-
  No cell of these rows narrows 'for every input' (looked for: loops, veiled, ifaces, maps, wideKeys, modest, calm, conditions, laid).
  DERIVED. THE GIVEN ROWS OF THIS SEAT. 4 by the template 'for every input the law returns true; each argument reads behind the call as it read before'; 0 by the template 'total and deterministic' (their statements: YtahhhhacoigpmaaTotals.lean).
  GIVEN WITH THE SEED: the statements are not yours to turn. If you find one false, say at which input.
  Laid BY PROGRAM, IN A SANDBOX (cutbox-rows.mjs): the forced cells as the released guide's own fill.sh prints them over the translation 93a0dc00413c46dc… (all of the seat's roots in one cut). By AI agents, Wed Nov 11 2026. No macro, syntax, notation, axiom, sorry.
-/
import Derived.Test.YtahhhhacoigpmaaChecked
import GoSem.Claim
import GoSem.ClaimJoined
import GoSem.ClaimMapViews
import Derived.JoinedTies
import Derived.KernelRfl
namespace Go.Proofs.Ytahhhhacoigpmaa
/- THE CELL 'sum', in the pinned program and in every row, IS THE sha256 OF THE DUMP (.gsa) THAT YtahhhhacoigpmaaProg.lean LOADS. Nothing in Lean hashes anything: it is a label: what it is worth is what the hold of that sum in a sandbox is worth. -/
noncomputable def Try.pinned : Pinned := { name := "ytahhhhacoigpmaa", sum := "93a0dc00413c46dcdf2c45f56ffde58ca0e73c591f0abe720ca78cda6eb1f2bb", checked := Try.checked }
namespace Rows
def none {H : Type} : Left H := { results := [], args := [] }

/-- 'replevinlaw10.StaffTells': WHATEVER THE INPUT: true; the input reads as it did. -/
def staffTellsSpec : ChangeSpec := { name := "staffTells", fn := fun _ => fun
  | [d1, d2, d3, d4, d5] => { results := [.lit (.bool true)], args := [d1, d2, d3, d4, d5] }
  | _ => none }
def staffTellsRow : OpenClaim := { program := "ytahhhhacoigpmaa", sum := "93a0dc00413c46dcdf2c45f56ffde58ca0e73c591f0abe720ca78cda6eb1f2bb", func := "replevin/replevinlaw10.StaffTells", spec := "staffTells", unfollowed := true, recurses := true, plainKeys := false, apart := false }
def StaffTellsSaid : Prop := staffTellsRow.holds Try.pinned (OpenSpec.ofChange staffTellsSpec)

/-- ITS FALSE NEIGHBOUR: 'it returns false'. Refute it at one input. -/
def staffTellsWrong : ChangeSpec := { name := "staffTells", fn := fun _ => fun
  | [d1, d2, d3, d4, d5] => { results := [.lit (.bool false)], args := [d1, d2, d3, d4, d5] }
  | _ => none }
def StaffTellsWrongFalsely : Prop := staffTellsRow.holds Try.pinned (OpenSpec.ofChange staffTellsWrong)

/-- 'replevinlaw10.StaffStands': WHATEVER THE INPUT: true; the input reads as it did. -/
def staffStandsSpec : ChangeSpec := { name := "staffStands", fn := fun _ => fun
  | [d1, d2, d3] => { results := [.lit (.bool true)], args := [d1, d2, d3] }
  | _ => none }
def staffStandsRow : OpenClaim := { program := "ytahhhhacoigpmaa", sum := "93a0dc00413c46dcdf2c45f56ffde58ca0e73c591f0abe720ca78cda6eb1f2bb", func := "replevin/replevinlaw10.StaffStands", spec := "staffStands", unfollowed := true, recurses := true, plainKeys := false, apart := false }
def StaffStandsSaid : Prop := staffStandsRow.holds Try.pinned (OpenSpec.ofChange staffStandsSpec)

/-- ITS FALSE NEIGHBOUR: 'it returns false'. Refute it at one input. -/
def staffStandsWrong : ChangeSpec := { name := "staffStands", fn := fun _ => fun
  | [d1, d2, d3] => { results := [.lit (.bool false)], args := [d1, d2, d3] }
  | _ => none }
def StaffStandsWrongFalsely : Prop := staffStandsRow.holds Try.pinned (OpenSpec.ofChange staffStandsWrong)

/-- 'replevinlaw10.StaffChains': WHATEVER THE INPUT: true; the input reads as it did. -/
def staffChainsSpec : ChangeSpec := { name := "staffChains", fn := fun _ => fun
  | [d] => { results := [.lit (.bool true)], args := [d] }
  | _ => none }
def staffChainsRow : OpenClaim := { program := "ytahhhhacoigpmaa", sum := "93a0dc00413c46dcdf2c45f56ffde58ca0e73c591f0abe720ca78cda6eb1f2bb", func := "replevin/replevinlaw10.StaffChains", spec := "staffChains", unfollowed := true, recurses := true, plainKeys := false, apart := false }
def StaffChainsSaid : Prop := staffChainsRow.holds Try.pinned (OpenSpec.ofChange staffChainsSpec)

/-- ITS FALSE NEIGHBOUR: 'it returns false'. Refute it at one input. -/
def staffChainsWrong : ChangeSpec := { name := "staffChains", fn := fun _ => fun
  | [d] => { results := [.lit (.bool false)], args := [d] }
  | _ => none }
def StaffChainsWrongFalsely : Prop := staffChainsRow.holds Try.pinned (OpenSpec.ofChange staffChainsWrong)

/-- 'replevinlaw10.StaffBack': WHATEVER THE INPUT: true; the input reads as it did. -/
def staffBackSpec : ChangeSpec := { name := "staffBack", fn := fun _ => fun
  | [d1, d2, d3] => { results := [.lit (.bool true)], args := [d1, d2, d3] }
  | _ => none }
def staffBackRow : OpenClaim := { program := "ytahhhhacoigpmaa", sum := "93a0dc00413c46dcdf2c45f56ffde58ca0e73c591f0abe720ca78cda6eb1f2bb", func := "replevin/replevinlaw10.StaffBack", spec := "staffBack", unfollowed := true, recurses := true, plainKeys := false, apart := false }
def StaffBackSaid : Prop := staffBackRow.holds Try.pinned (OpenSpec.ofChange staffBackSpec)

/-- ITS FALSE NEIGHBOUR: 'it returns false'. Refute it at one input. -/
def staffBackWrong : ChangeSpec := { name := "staffBack", fn := fun _ => fun
  | [d1, d2, d3] => { results := [.lit (.bool false)], args := [d1, d2, d3] }
  | _ => none }
def StaffBackWrongFalsely : Prop := staffBackRow.holds Try.pinned (OpenSpec.ofChange staffBackWrong)

/- THE SECOND FORM. 'bulk': how many values and letters a reading holds, each counted each time it is reached (what is shared counts as often as it is met; a slice's spare places count too). A statement '..UptoSaid' is the law's where the arguments, and the package variables that the reading takes, are together of bulk at most 1048576: NARROWER than '..Said'. Prove '..Said' where nothing that the law and all that it calls make is longer than what came in: it says more and counts as full. Else prove '..UptoSaid'. A law counts once. -/
mutual
def uptoBulk {H : Type} : DataW H → Nat
  | .lit (.string bytes) => bytes.length + 1
  | .lit _ => 1
  | .nil => 1
  | .ptr d => uptoBulk d + 1
  | .slice elems spare => uptoBulkAll elems + uptoBulkAll spare + 1
  | .agg parts => uptoBulkAll parts + 1
  | .iface _ d => uptoBulk d + 1
  | .map entries => uptoBulkEntries entries + 1
  | .held _ => 1
def uptoBulkAll {H : Type} : List (DataW H) → Nat
  | [] => 0
  | d :: r => uptoBulk d + uptoBulkAll r
def uptoBulkEntries {H : Type} : List (Lit × DataW H) → Nat
  | [] => 0
  | x :: r => uptoBulkEntry x + uptoBulkEntries r
def uptoBulkEntry {H : Type} : Lit × DataW H → Nat
  | (.string bytes, d) => bytes.length + uptoBulk d + 1
  | (_, d) => uptoBulk d + 1
 end
def uptoSmall : (H : Type) → List (DataW H) → Bool := fun _ ds => decide (uptoBulkAll ds ≤ 1048576)
def OpenSpec.upto (s : _root_.Go.ChangeSpec) : _root_.Go.OpenSpec := { _root_.Go.OpenSpec.ofChange s with cond := some uptoSmall }

/-- 'replevinlaw10.StaffTells', WHERE WHAT IT READS IS OF BULK AT MOST 1048576: true; the input reads as it did. -/
def staffTellsUptoRow : OpenClaim := { program := "ytahhhhacoigpmaa", sum := "93a0dc00413c46dcdf2c45f56ffde58ca0e73c591f0abe720ca78cda6eb1f2bb", func := "replevin/replevinlaw10.StaffTells", spec := "staffTells", unfollowed := true, recurses := true, plainKeys := false, apart := false, narrowed := true }
def StaffTellsUptoSaid : Prop := staffTellsUptoRow.holds Try.pinned (OpenSpec.upto staffTellsSpec)

/-- 'replevinlaw10.StaffStands', WHERE WHAT IT READS IS OF BULK AT MOST 1048576: true; the input reads as it did. -/
def staffStandsUptoRow : OpenClaim := { program := "ytahhhhacoigpmaa", sum := "93a0dc00413c46dcdf2c45f56ffde58ca0e73c591f0abe720ca78cda6eb1f2bb", func := "replevin/replevinlaw10.StaffStands", spec := "staffStands", unfollowed := true, recurses := true, plainKeys := false, apart := false, narrowed := true }
def StaffStandsUptoSaid : Prop := staffStandsUptoRow.holds Try.pinned (OpenSpec.upto staffStandsSpec)

/-- 'replevinlaw10.StaffChains', WHERE WHAT IT READS IS OF BULK AT MOST 1048576: true; the input reads as it did. -/
def staffChainsUptoRow : OpenClaim := { program := "ytahhhhacoigpmaa", sum := "93a0dc00413c46dcdf2c45f56ffde58ca0e73c591f0abe720ca78cda6eb1f2bb", func := "replevin/replevinlaw10.StaffChains", spec := "staffChains", unfollowed := true, recurses := true, plainKeys := false, apart := false, narrowed := true }
def StaffChainsUptoSaid : Prop := staffChainsUptoRow.holds Try.pinned (OpenSpec.upto staffChainsSpec)

/-- 'replevinlaw10.StaffBack', WHERE WHAT IT READS IS OF BULK AT MOST 1048576: true; the input reads as it did. -/
def staffBackUptoRow : OpenClaim := { program := "ytahhhhacoigpmaa", sum := "93a0dc00413c46dcdf2c45f56ffde58ca0e73c591f0abe720ca78cda6eb1f2bb", func := "replevin/replevinlaw10.StaffBack", spec := "staffBack", unfollowed := true, recurses := true, plainKeys := false, apart := false, narrowed := true }
def StaffBackUptoSaid : Prop := staffBackUptoRow.holds Try.pinned (OpenSpec.upto staffBackSpec)

end Rows
end Go.Proofs.Ytahhhhacoigpmaa
