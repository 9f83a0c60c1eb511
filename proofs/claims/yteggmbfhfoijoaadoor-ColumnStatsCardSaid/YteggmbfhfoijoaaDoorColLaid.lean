/- Of two tables that a card ties, crc's: what the condition gives the walks. -/
import Derived.Test.YteggmbfhfoijoaaDoorCrcLaid
namespace Go.Proofs.YteggmbfhfoijoaaDoor
open Go.RowKit CrcPlain
set_option linter.unusedVariables false

theorem table_of2 {W : World} (h : laidMetH Tryd.prog [("entrepot/crc.steps", Rows.laid_entrepot_crc_steps), ("entrepot/inflate.order", Rows.laid_entrepot_inflate_order)] W) : Table W := by
  rw [MakeChecks.laidMetH_plain _ _ _ (by kernel_rfl)] at h
  have h1 : laidMet Tryd.prog [("entrepot/crc.steps", Lib.tabData .u32 nibI), ("entrepot/inflate.order", Rows.laid_entrepot_inflate_order)] W := h
  have h2 := Lib.tabIs_of_head gSteps tSteps Tryd.underlying139 Tryd.underlying66 (by kernel_rfl) (by kernel_rfl) h1
  intro r hr
  rw [← nibI_ok r hr]
  exact h2.cell gSteps r (by simpa [nibI] using hr)
end Go.Proofs.YteggmbfhfoijoaaDoor
