/- The table that the card ties: what the condition gives the walks. -/
import Derived.Test.YteggmbfhfoijoaaDoorRows
import Derived.Test.YteggmbfhfoijoaaDoorCrcSum
import Derived.Lib.LaidTab
import Derived.MakeChecks
namespace Go.Proofs.YteggmbfhfoijoaaDoor
open Go.RowKit CrcPlain
set_option linter.unusedVariables false

theorem gSteps : Tryd.prog.globalNamed "entrepot/crc.steps" = some 0 := by kernel_rfl
theorem tSteps : (Tryd.prog.globals[0]?).map (·.type) = some 139 := by kernel_rfl
def nibI : List Int := [0, 498536548, 997073096, 651767980, 1994146192, 1802195444, 1303535960, 1342533948, 3988292384, 4027552580, 3604390888, 3412177804, 2607071920, 2262029012, 2685067896, 3183342108]
theorem nibI_ok : ∀ r, r < 16 → nibI.getD r 0 = ((nib.getD r 0 : Nat) : Int) := by decide

theorem table_of {W : World} (h : laidMetH Tryd.prog [("entrepot/crc.steps", Rows.laid_entrepot_crc_steps)] W) : Table W := by
  rw [MakeChecks.laidMetH_plain _ _ _ (by kernel_rfl)] at h
  have h1 : laidMet Tryd.prog [("entrepot/crc.steps", Lib.tabData .u32 nibI)] W := h
  have h2 := Lib.tabIs_of_head gSteps tSteps Tryd.underlying139 Tryd.underlying66 (by kernel_rfl) (by kernel_rfl) h1
  intro r hr
  rw [← nibI_ok r hr]
  exact h2.cell gSteps r (by simpa [nibI] using hr)
end Go.Proofs.YteggmbfhfoijoaaDoor
