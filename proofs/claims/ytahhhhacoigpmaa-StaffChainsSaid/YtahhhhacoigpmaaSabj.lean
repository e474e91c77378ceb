/-
  The laws of staff: StaffBack, StaffStands, StaffChains: of all arguments each answers true, and its arguments read as they did. Conditions: none.
-/
import Derived.Test.YtahhhhacoigpmaaSabg
import Derived.Test.YtahhhhacoigpmaaSabh
import Derived.Test.YtahhhhacoigpmaaSabi
namespace Go.Proofs.Ytahhhhacoigpmaa.SAll
theorem proved : Rows.StaffBackSaid ∧ Rows.StaffStandsSaid ∧ Rows.StaffChainsSaid := ⟨SBack.proved, SStands.proved, SChains.proved⟩
end Go.Proofs.Ytahhhhacoigpmaa.SAll
