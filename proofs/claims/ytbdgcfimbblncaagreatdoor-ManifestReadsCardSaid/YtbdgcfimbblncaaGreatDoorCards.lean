/-
  DERIVED. GIVEN WITH THE SEED: THE CARDS: each row of YtbdgcfimbblncaaGreatDoorRows.lean that lists a variable, with what it lists TIED to the program's text (the seventh form; the later family's looks); each row that meets fmt, with fmt's text TOLD by the authors' own Lean function (tested against real Go, not proved from fmt's source: count such statements apart). THE CARD IS WHAT COUNTS. Prove the row's statement (the work); the ties are given (YtbdgcfimbblncaaGreatDoorTie.lean); close each card by the builder's one call (the guide's Derived/Test/ToyasCard.lean, 'card_holds'). Laid BY PROGRAM, IN A SANDBOX (cutbox-door.mjs). By AI agents, Wed Nov 11 2026. No macro, syntax, notation, axiom, sorry.
-/
import Derived.Test.YtbdgcfimbblncaaGreatDoorRows
import GoSem.ClaimSeven
namespace Go.Proofs.YtbdgcfimbblncaaGreatDoor
namespace Rows

/-- THE TIED CARD OF 'entrepotlaw13.ManifestCodes'. -/
def manifestCodesCard : Claim7 := { stood := { row := manifestCodesRow, standIns := [], harness := (true, "29d40967320c967f30515ff9ec854d5173b86f4781781f06a1062818e3a46e8e"), looks := false }, kinds := [], alts := [], laidByText := true, laidKinds := [.data], laidTests := true, laidLooks := .later }
def ManifestCodesCardSaid : Prop := Claim7.holds Tryz.pinned (.plain (OpenSpec.ofChange manifestCodesSpec)) manifestCodesCard

/-- THE TIED CARD OF 'entrepotlaw13.ManifestReads'. -/
def manifestReadsCard : Claim7 := { stood := { row := manifestReadsRow, standIns := [], harness := (true, "29d40967320c967f30515ff9ec854d5173b86f4781781f06a1062818e3a46e8e"), looks := false }, kinds := [], alts := [], laidByText := true, laidKinds := [.data], laidTests := true, laidLooks := .later }
def ManifestReadsCardSaid : Prop := Claim7.holds Tryz.pinned (.plain (OpenSpec.ofChange manifestReadsSpec)) manifestReadsCard

/-- THE TIED CARD OF 'entrepotlaw13.ManifestBack'. -/
def manifestBackCard : Claim7 := { stood := { row := manifestBackRow, standIns := [], harness := (true, "29d40967320c967f30515ff9ec854d5173b86f4781781f06a1062818e3a46e8e"), looks := false }, kinds := [], alts := [], laidByText := true, laidKinds := [.data], laidTests := true, laidLooks := .later }
def ManifestBackCardSaid : Prop := Claim7.holds Tryz.pinned (.plain (OpenSpec.ofChange manifestBackSpec)) manifestBackCard

/-- THE SECOND FORM's CARD OF 'entrepotlaw13.ManifestCodes'. -/
def manifestCodesUptoCard : Claim7 := { stood := { row := manifestCodesUptoRow, standIns := [], harness := (true, "29d40967320c967f30515ff9ec854d5173b86f4781781f06a1062818e3a46e8e"), looks := false }, kinds := [], alts := [], laidByText := true, laidKinds := [.data], laidTests := true, laidLooks := .later }
def ManifestCodesUptoCardSaid : Prop := Claim7.holds Tryz.pinned (.plain (OpenSpec.upto manifestCodesSpec)) manifestCodesUptoCard

/-- THE SECOND FORM's CARD OF 'entrepotlaw13.ManifestReads'. -/
def manifestReadsUptoCard : Claim7 := { stood := { row := manifestReadsUptoRow, standIns := [], harness := (true, "29d40967320c967f30515ff9ec854d5173b86f4781781f06a1062818e3a46e8e"), looks := false }, kinds := [], alts := [], laidByText := true, laidKinds := [.data], laidTests := true, laidLooks := .later }
def ManifestReadsUptoCardSaid : Prop := Claim7.holds Tryz.pinned (.plain (OpenSpec.upto manifestReadsSpec)) manifestReadsUptoCard

/-- THE SECOND FORM's CARD OF 'entrepotlaw13.ManifestBack'. -/
def manifestBackUptoCard : Claim7 := { stood := { row := manifestBackUptoRow, standIns := [], harness := (true, "29d40967320c967f30515ff9ec854d5173b86f4781781f06a1062818e3a46e8e"), looks := false }, kinds := [], alts := [], laidByText := true, laidKinds := [.data], laidTests := true, laidLooks := .later }
def ManifestBackUptoCardSaid : Prop := Claim7.holds Tryz.pinned (.plain (OpenSpec.upto manifestBackSpec)) manifestBackUptoCard
end Rows
end Go.Proofs.YtbdgcfimbblncaaGreatDoor
