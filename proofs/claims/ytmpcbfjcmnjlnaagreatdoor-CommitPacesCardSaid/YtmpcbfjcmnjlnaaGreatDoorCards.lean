/-
  DERIVED. GIVEN WITH THE SEED: THE CARDS: each row of YtmpcbfjcmnjlnaaGreatDoorRows.lean that lists a variable, with what it lists TIED to the program's text (the seventh form; the later family's looks); each row that meets fmt, with fmt's text TOLD by the authors' own Lean function (tested against real Go, not proved from fmt's source: count such statements apart). THE CARD IS WHAT COUNTS. Prove the row's statement (the work); the ties are given (YtmpcbfjcmnjlnaaGreatDoorTie.lean); close each card by the builder's one call (the guide's Derived/Test/ToyasCard.lean, 'card_holds'). Laid BY PROGRAM, IN A SANDBOX (cutbox-door.mjs). By AI agents, Wed Nov 11 2026. No macro, syntax, notation, axiom, sorry.
-/
import Derived.Test.YtmpcbfjcmnjlnaaGreatDoorRows
import GoSem.ClaimSeven
namespace Go.Proofs.YtmpcbfjcmnjlnaaGreatDoor
namespace Rows

/-- THE TIED CARD OF 'entrepotlaw18.CommitPaces'. -/
def commitPacesCard : Claim7 := { stood := { row := commitPacesRow, standIns := [], harness := (true, "de3718222e4357b9bf80dbe899f922a2e33cd70035a1b2e41f1cf8c1f26eeb1f"), looks := false }, kinds := [], alts := [], laidByText := true, laidKinds := [.data], laidTests := true, laidLooks := .later }
def CommitPacesCardSaid : Prop := Claim7.holds Tryz.pinned (.plain (OpenSpec.ofChange commitPacesSpec)) commitPacesCard

/-- THE SECOND FORM's CARD OF 'entrepotlaw18.CommitPaces'. -/
def commitPacesUptoCard : Claim7 := { stood := { row := commitPacesUptoRow, standIns := [], harness := (true, "de3718222e4357b9bf80dbe899f922a2e33cd70035a1b2e41f1cf8c1f26eeb1f"), looks := false }, kinds := [], alts := [], laidByText := true, laidKinds := [.data], laidTests := true, laidLooks := .later }
def CommitPacesUptoCardSaid : Prop := Claim7.holds Tryz.pinned (.plain (OpenSpec.upto commitPacesSpec)) commitPacesUptoCard
end Rows
end Go.Proofs.YtmpcbfjcmnjlnaaGreatDoor
