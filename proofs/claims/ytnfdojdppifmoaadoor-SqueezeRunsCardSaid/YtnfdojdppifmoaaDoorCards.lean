/-
  DERIVED. GIVEN WITH THE SEED: THE CARDS: each row of YtnfdojdppifmoaaDoorRows.lean that lists a variable, with what it lists TIED to the program's text (the seventh form; the later family's looks); each row that meets fmt, with fmt's text TOLD by the authors' own Lean function (tested against real Go, not proved from fmt's source: count such statements apart). THE CARD IS WHAT COUNTS. Prove the row's statement (the work); the ties are given (YtnfdojdppifmoaaDoorTie.lean); close each card by the builder's one call (the guide's Derived/Test/ToyasCard.lean, 'card_holds'). Laid BY PROGRAM, IN A SANDBOX (cutbox-door.mjs). By AI agents, Wed Nov 11 2026. No macro, syntax, notation, axiom, sorry.
-/
import Derived.Test.YtnfdojdppifmoaaDoorRows
import GoSem.ClaimSeven
namespace Go.Proofs.YtnfdojdppifmoaaDoor
namespace Rows

/-- THE TIED CARD OF 'entrepotlaw06.InflateLimits'. -/
def inflateLimitsCard : Claim7 := { stood := { row := inflateLimitsRow, standIns := [], harness := (true, "31248d51e6b79ddbc852b39fdb7858583b17c8096d7fa9ecde4f565a3b04dc91"), looks := false }, kinds := [], alts := [], laidByText := true, laidKinds := [.data], laidTests := true, laidLooks := .later }
def InflateLimitsCardSaid : Prop := Claim7.holds Tryd.pinned (.plain (OpenSpec.ofChange inflateLimitsSpec)) inflateLimitsCard

/-- THE TIED CARD OF 'entrepotlaw07.SqueezeBack'. -/
def squeezeBackCard : Claim7 := { stood := { row := squeezeBackRow, standIns := [], harness := (true, "31248d51e6b79ddbc852b39fdb7858583b17c8096d7fa9ecde4f565a3b04dc91"), looks := false }, kinds := [], alts := [], laidByText := true, laidKinds := [.data], laidTests := true, laidLooks := .later }
def SqueezeBackCardSaid : Prop := Claim7.holds Tryd.pinned (.plain (OpenSpec.ofChange squeezeBackSpec)) squeezeBackCard

/-- THE TIED CARD OF 'entrepotlaw07.SqueezeRuns'. -/
def squeezeRunsCard : Claim7 := { stood := { row := squeezeRunsRow, standIns := [], harness := (true, "31248d51e6b79ddbc852b39fdb7858583b17c8096d7fa9ecde4f565a3b04dc91"), looks := false }, kinds := [], alts := [], laidByText := true, laidKinds := [.data], laidTests := true, laidLooks := .later }
def SqueezeRunsCardSaid : Prop := Claim7.holds Tryd.pinned (.plain (OpenSpec.ofChange squeezeRunsSpec)) squeezeRunsCard

/-- THE SECOND FORM's CARD OF 'entrepotlaw06.InflateLimits'. -/
def inflateLimitsUptoCard : Claim7 := { stood := { row := inflateLimitsUptoRow, standIns := [], harness := (true, "31248d51e6b79ddbc852b39fdb7858583b17c8096d7fa9ecde4f565a3b04dc91"), looks := false }, kinds := [], alts := [], laidByText := true, laidKinds := [.data], laidTests := true, laidLooks := .later }
def InflateLimitsUptoCardSaid : Prop := Claim7.holds Tryd.pinned (.plain (OpenSpec.upto inflateLimitsSpec)) inflateLimitsUptoCard

/-- THE SECOND FORM's CARD OF 'entrepotlaw07.SqueezeBack'. -/
def squeezeBackUptoCard : Claim7 := { stood := { row := squeezeBackUptoRow, standIns := [], harness := (true, "31248d51e6b79ddbc852b39fdb7858583b17c8096d7fa9ecde4f565a3b04dc91"), looks := false }, kinds := [], alts := [], laidByText := true, laidKinds := [.data], laidTests := true, laidLooks := .later }
def SqueezeBackUptoCardSaid : Prop := Claim7.holds Tryd.pinned (.plain (OpenSpec.upto squeezeBackSpec)) squeezeBackUptoCard

/-- THE SECOND FORM's CARD OF 'entrepotlaw07.SqueezeRuns'. -/
def squeezeRunsUptoCard : Claim7 := { stood := { row := squeezeRunsUptoRow, standIns := [], harness := (true, "31248d51e6b79ddbc852b39fdb7858583b17c8096d7fa9ecde4f565a3b04dc91"), looks := false }, kinds := [], alts := [], laidByText := true, laidKinds := [.data], laidTests := true, laidLooks := .later }
def SqueezeRunsUptoCardSaid : Prop := Claim7.holds Tryd.pinned (.plain (OpenSpec.upto squeezeRunsSpec)) squeezeRunsUptoCard
end Rows
end Go.Proofs.YtnfdojdppifmoaaDoor
