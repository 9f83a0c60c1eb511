/- Texts put together by packtpl2.py: ColLaid2. -/
import Derived.Test.YtpbijdoemdoijaaGreatDoorPkCa24
import Derived.Test.YtpbijdoemdoijaaGreatDoorPkCa39
section PkCa40_0
/- Of two tables that a card ties, both: what the condition gives the walks. -/
namespace Go.Proofs.YtpbijdoemdoijaaGreatDoor
open Go.RowKit CrcPlain InfPlain
set_option linter.unusedVariables false

theorem laidMet_tail {P : Program} {W : World} {x : String × DataW Unit} {rest : List (String × DataW Unit)} (h : laidMet P (x :: rest) W) : laidMet P rest W := by
  obtain ⟨n, d⟩ := x
  obtain ⟨ps, ⟨g, t, cs, fuel, p, q, _, _, _, _, hq, rfl⟩, hnd, hall⟩ := h
  exact ⟨q, hq, (List.nodup_append.1 hnd).2.1, fun b off hb => hall b off (List.mem_append_right _ hb)⟩
theorem gOrder2 : Tryz.prog.globalNamed "entrepot/inflate.order" = some 1 := by kernel_rfl
theorem tOrder2 : (Tryz.prog.globals[1]?).map (·.type) = some 192 := by kernel_rfl
def ordrI2 : List Int := [16, 17, 18, 0, 8, 7, 9, 6, 10, 5, 11, 4, 12, 3, 13, 2, 14, 1, 15]
theorem ordrI2_ok : ∀ r, r < 19 → ordrI2.getD r 0 = ((ordr.getD r 0 : Nat) : Int) := by decide
theorem both_of {W : World} (h : laidMetH Tryz.prog [("entrepot/crc.steps", Rows.laid_entrepot_crc_steps), ("entrepot/inflate.order", Rows.laid_entrepot_inflate_order)] W) : Table W ∧ Ordr W := by
  refine ⟨table_of2 h, ?_⟩
  rw [MakeChecks.laidMetH_plain _ _ _ (by kernel_rfl)] at h
  have h1 : laidMet Tryz.prog [("entrepot/crc.steps", Lib.tabData .u32 nibI), ("entrepot/inflate.order", Lib.tabData .i64 ordrI2)] W := h
  have h2 := Lib.tabIs_of_head gOrder2 tOrder2 Tryz.underlying192 Tryz.underlying3 (by kernel_rfl) (by kernel_rfl) (laidMet_tail h1)
  intro r hr
  rw [← ordrI2_ok r hr]
  exact h2.cell gOrder2 r (by simpa [ordrI2] using hr)
end Go.Proofs.YtpbijdoemdoijaaGreatDoor
end PkCa40_0
