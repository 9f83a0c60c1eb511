/- The table that the card ties: what the condition gives the walks. -/
import Derived.Test.YtnfdojdppifmoaaDoorRows
import Derived.Test.YtnfdojdppifmoaaDoorInfThird
import Derived.Lib.LaidTab
import Derived.MakeChecks
namespace Go.Proofs.YtnfdojdppifmoaaDoor
open Go.RowKit InfPlain
set_option linter.unusedVariables false

theorem gOrder : Tryd.prog.globalNamed "entrepot/inflate.order" = some 0 := by kernel_rfl
theorem tOrder : (Tryd.prog.globals[0]?).map (·.type) = some 102 := by kernel_rfl
def ordrI : List Int := [16, 17, 18, 0, 8, 7, 9, 6, 10, 5, 11, 4, 12, 3, 13, 2, 14, 1, 15]
theorem ordrI_ok : ∀ r, r < 19 → ordrI.getD r 0 = ((ordr.getD r 0 : Nat) : Int) := by decide

theorem ordr_of {W : World} (h : laidMetH Tryd.prog [("entrepot/inflate.order", Rows.laid_entrepot_inflate_order)] W) : Ordr W := by
  rw [MakeChecks.laidMetH_plain _ _ _ (by kernel_rfl)] at h
  have h1 : laidMet Tryd.prog [("entrepot/inflate.order", Lib.tabData .i64 ordrI)] W := h
  have h2 := Lib.tabIs_of_head gOrder tOrder Tryd.underlying102 Tryd.underlying3 (by kernel_rfl) (by kernel_rfl) h1
  intro r hr
  rw [← ordrI_ok r hr]
  exact h2.cell gOrder r (by simpa [ordrI] using hr)
end Go.Proofs.YtnfdojdppifmoaaDoor
