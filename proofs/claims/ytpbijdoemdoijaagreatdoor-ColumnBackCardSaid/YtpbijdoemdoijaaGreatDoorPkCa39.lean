/- Texts put together by packtpl2.py: CrcLaid, ColLaid. -/
import Derived.Test.YtpbijdoemdoijaaGreatDoorPkCa11
import Derived.Test.YtpbijdoemdoijaaGreatDoorRows
import Derived.Lib.LaidTab
import Derived.MakeChecks
section PkCa39_0
/- The table that the card ties: what the condition gives the walks. -/
namespace Go.Proofs.YtpbijdoemdoijaaGreatDoor
open Go.RowKit CrcPlain
set_option linter.unusedVariables false

theorem gSteps : Tryz.prog.globalNamed "entrepot/crc.steps" = some 0 := by kernel_rfl
theorem tSteps : (Tryz.prog.globals[0]?).map (·.type) = some 205 := by kernel_rfl
def nibI : List Int := [0, 498536548, 997073096, 651767980, 1994146192, 1802195444, 1303535960, 1342533948, 3988292384, 4027552580, 3604390888, 3412177804, 2607071920, 2262029012, 2685067896, 3183342108]
theorem nibI_ok : ∀ r, r < 16 → nibI.getD r 0 = ((nib.getD r 0 : Nat) : Int) := by decide

theorem table_of {W : World} (h : laidMetH Tryz.prog [("entrepot/crc.steps", Rows.laid_entrepot_crc_steps)] W) : Table W := by
  rw [MakeChecks.laidMetH_plain _ _ _ (by kernel_rfl)] at h
  have h1 : laidMet Tryz.prog [("entrepot/crc.steps", Lib.tabData .u32 nibI)] W := h
  have h2 := Lib.tabIs_of_head gSteps tSteps Tryz.underlying205 Tryz.underlying85 (by kernel_rfl) (by kernel_rfl) h1
  intro r hr
  rw [← nibI_ok r hr]
  exact h2.cell gSteps r (by simpa [nibI] using hr)
end Go.Proofs.YtpbijdoemdoijaaGreatDoor
end PkCa39_0
section PkCa39_1
/- Of two tables that a card ties, crc's: what the condition gives the walks. -/
namespace Go.Proofs.YtpbijdoemdoijaaGreatDoor
open Go.RowKit CrcPlain
set_option linter.unusedVariables false

theorem table_of2 {W : World} (h : laidMetH Tryz.prog [("entrepot/crc.steps", Rows.laid_entrepot_crc_steps), ("entrepot/inflate.order", Rows.laid_entrepot_inflate_order)] W) : Table W := by
  rw [MakeChecks.laidMetH_plain _ _ _ (by kernel_rfl)] at h
  have h1 : laidMet Tryz.prog [("entrepot/crc.steps", Lib.tabData .u32 nibI), ("entrepot/inflate.order", Rows.laid_entrepot_inflate_order)] W := h
  have h2 := Lib.tabIs_of_head gSteps tSteps Tryz.underlying205 Tryz.underlying85 (by kernel_rfl) (by kernel_rfl) h1
  intro r hr
  rw [← nibI_ok r hr]
  exact h2.cell gSteps r (by simpa [nibI] using hr)
end Go.Proofs.YtpbijdoemdoijaaGreatDoor
end PkCa39_1
