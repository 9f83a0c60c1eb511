/-
  DERIVED. GIVEN WITH THE SEED: THE CARDS: each row of YteggmbfhfoijoaaDoorRows.lean that lists a variable, with what it lists TIED to the program's text (the seventh form; the later family's looks); each row that meets fmt, with fmt's text TOLD by the authors' own Lean function (tested against real Go, not proved from fmt's source: count such statements apart). THE CARD IS WHAT COUNTS. Prove the row's statement (the work); the ties are given (YteggmbfhfoijoaaDoorTie.lean); close each card by the builder's one call (the guide's Derived/Test/ToyasCard.lean, 'card_holds'). Laid BY PROGRAM, IN A SANDBOX (cutbox-door.mjs). By AI agents, Wed Nov 11 2026. No macro, syntax, notation, axiom, sorry.
-/
import Derived.Test.YteggmbfhfoijoaaDoorRows
import GoSem.ClaimSeven
namespace Go.Proofs.YteggmbfhfoijoaaDoor
namespace Rows

/-- THE TIED CARD OF 'entrepotlaw10.ColumnTurned'. -/
def columnTurnedCard : Claim7 := { stood := { row := columnTurnedRow, standIns := [], harness := (true, "529c18d445802570443142f05b09f824c0015c7472d572acde9ba587e3b03834"), looks := false }, kinds := [], alts := [], laidByText := true, laidKinds := [.data, .data], laidTests := true, laidLooks := .later }
def ColumnTurnedCardSaid : Prop := Claim7.holds Tryd.pinned (.plain (OpenSpec.ofChange columnTurnedSpec)) columnTurnedCard

/-- THE TIED CARD OF 'entrepotlaw10.ColumnStats'. -/
def columnStatsCard : Claim7 := { stood := { row := columnStatsRow, standIns := [], harness := (true, "529c18d445802570443142f05b09f824c0015c7472d572acde9ba587e3b03834"), looks := false }, kinds := [], alts := [], laidByText := true, laidKinds := [.data, .data], laidTests := true, laidLooks := .later }
def ColumnStatsCardSaid : Prop := Claim7.holds Tryd.pinned (.plain (OpenSpec.ofChange columnStatsSpec)) columnStatsCard

/-- THE SECOND FORM's CARD OF 'entrepotlaw10.ColumnTurned'. -/
def columnTurnedUptoCard : Claim7 := { stood := { row := columnTurnedUptoRow, standIns := [], harness := (true, "529c18d445802570443142f05b09f824c0015c7472d572acde9ba587e3b03834"), looks := false }, kinds := [], alts := [], laidByText := true, laidKinds := [.data, .data], laidTests := true, laidLooks := .later }
def ColumnTurnedUptoCardSaid : Prop := Claim7.holds Tryd.pinned (.plain (OpenSpec.upto columnTurnedSpec)) columnTurnedUptoCard

/-- THE SECOND FORM's CARD OF 'entrepotlaw10.ColumnStats'. -/
def columnStatsUptoCard : Claim7 := { stood := { row := columnStatsUptoRow, standIns := [], harness := (true, "529c18d445802570443142f05b09f824c0015c7472d572acde9ba587e3b03834"), looks := false }, kinds := [], alts := [], laidByText := true, laidKinds := [.data, .data], laidTests := true, laidLooks := .later }
def ColumnStatsUptoCardSaid : Prop := Claim7.holds Tryd.pinned (.plain (OpenSpec.upto columnStatsSpec)) columnStatsUptoCard
end Rows
end Go.Proofs.YteggmbfhfoijoaaDoor
