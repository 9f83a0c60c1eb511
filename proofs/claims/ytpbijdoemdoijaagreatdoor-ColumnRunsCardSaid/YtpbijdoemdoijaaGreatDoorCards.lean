/-
  DERIVED. GIVEN WITH THE SEED: THE CARDS: each row of YtpbijdoemdoijaaGreatDoorRows.lean that lists a variable, with what it lists TIED to the program's text (the seventh form; the later family's looks); each row that meets fmt, with fmt's text TOLD by the authors' own Lean function (tested against real Go, not proved from fmt's source: count such statements apart). THE CARD IS WHAT COUNTS. Prove the row's statement (the work); the ties are given (YtpbijdoemdoijaaGreatDoorTie.lean); close each card by the builder's one call (the guide's Derived/Test/ToyasCard.lean, 'card_holds'). Laid BY PROGRAM, IN A SANDBOX (cutbox-door.mjs). By AI agents, Wed Nov 11 2026. No macro, syntax, notation, axiom, sorry.
-/
import Derived.Test.YtpbijdoemdoijaaGreatDoorRows
import GoSem.ClaimSeven
namespace Go.Proofs.YtpbijdoemdoijaaGreatDoor
namespace Rows

/-- THE TIED CARD OF 'entrepotlaw10.ColumnPuts'. -/
def columnPutsCard : Claim7 := { stood := { row := columnPutsRow, standIns := [], harness := (true, "bf4489e6fba8cdb248c3948be66e0a8652d0566bdd5be86082e42e251662ae98"), looks := false }, kinds := [], alts := [], laidByText := true, laidKinds := [.data, .data], laidTests := true, laidLooks := .later }
def ColumnPutsCardSaid : Prop := Claim7.holds Tryz.pinned (.plain (OpenSpec.ofChange columnPutsSpec)) columnPutsCard

/-- THE TIED CARD OF 'entrepotlaw10.ColumnReads'. -/
def columnReadsCard : Claim7 := { stood := { row := columnReadsRow, standIns := [], harness := (true, "bf4489e6fba8cdb248c3948be66e0a8652d0566bdd5be86082e42e251662ae98"), looks := false }, kinds := [], alts := [], laidByText := true, laidKinds := [.data, .data], laidTests := true, laidLooks := .later }
def ColumnReadsCardSaid : Prop := Claim7.holds Tryz.pinned (.plain (OpenSpec.ofChange columnReadsSpec)) columnReadsCard

/-- THE TIED CARD OF 'entrepotlaw10.ColumnBack'. -/
def columnBackCard : Claim7 := { stood := { row := columnBackRow, standIns := [], harness := (true, "bf4489e6fba8cdb248c3948be66e0a8652d0566bdd5be86082e42e251662ae98"), looks := false }, kinds := [], alts := [], laidByText := true, laidKinds := [.data, .data], laidTests := true, laidLooks := .later }
def ColumnBackCardSaid : Prop := Claim7.holds Tryz.pinned (.plain (OpenSpec.ofChange columnBackSpec)) columnBackCard

/-- THE TIED CARD OF 'entrepotlaw10.ColumnRuns'. -/
def columnRunsCard : Claim7 := { stood := { row := columnRunsRow, standIns := [], harness := (true, "bf4489e6fba8cdb248c3948be66e0a8652d0566bdd5be86082e42e251662ae98"), looks := false }, kinds := [], alts := [], laidByText := true, laidKinds := [.data, .data], laidTests := true, laidLooks := .later }
def ColumnRunsCardSaid : Prop := Claim7.holds Tryz.pinned (.plain (OpenSpec.ofChange columnRunsSpec)) columnRunsCard

/-- THE SECOND FORM's CARD OF 'entrepotlaw10.ColumnPuts'. -/
def columnPutsUptoCard : Claim7 := { stood := { row := columnPutsUptoRow, standIns := [], harness := (true, "bf4489e6fba8cdb248c3948be66e0a8652d0566bdd5be86082e42e251662ae98"), looks := false }, kinds := [], alts := [], laidByText := true, laidKinds := [.data, .data], laidTests := true, laidLooks := .later }
def ColumnPutsUptoCardSaid : Prop := Claim7.holds Tryz.pinned (.plain (OpenSpec.upto columnPutsSpec)) columnPutsUptoCard

/-- THE SECOND FORM's CARD OF 'entrepotlaw10.ColumnReads'. -/
def columnReadsUptoCard : Claim7 := { stood := { row := columnReadsUptoRow, standIns := [], harness := (true, "bf4489e6fba8cdb248c3948be66e0a8652d0566bdd5be86082e42e251662ae98"), looks := false }, kinds := [], alts := [], laidByText := true, laidKinds := [.data, .data], laidTests := true, laidLooks := .later }
def ColumnReadsUptoCardSaid : Prop := Claim7.holds Tryz.pinned (.plain (OpenSpec.upto columnReadsSpec)) columnReadsUptoCard

/-- THE SECOND FORM's CARD OF 'entrepotlaw10.ColumnBack'. -/
def columnBackUptoCard : Claim7 := { stood := { row := columnBackUptoRow, standIns := [], harness := (true, "bf4489e6fba8cdb248c3948be66e0a8652d0566bdd5be86082e42e251662ae98"), looks := false }, kinds := [], alts := [], laidByText := true, laidKinds := [.data, .data], laidTests := true, laidLooks := .later }
def ColumnBackUptoCardSaid : Prop := Claim7.holds Tryz.pinned (.plain (OpenSpec.upto columnBackSpec)) columnBackUptoCard

/-- THE SECOND FORM's CARD OF 'entrepotlaw10.ColumnRuns'. -/
def columnRunsUptoCard : Claim7 := { stood := { row := columnRunsUptoRow, standIns := [], harness := (true, "bf4489e6fba8cdb248c3948be66e0a8652d0566bdd5be86082e42e251662ae98"), looks := false }, kinds := [], alts := [], laidByText := true, laidKinds := [.data, .data], laidTests := true, laidLooks := .later }
def ColumnRunsUptoCardSaid : Prop := Claim7.holds Tryz.pinned (.plain (OpenSpec.upto columnRunsSpec)) columnRunsUptoCard
end Rows
end Go.Proofs.YtpbijdoemdoijaaGreatDoor
