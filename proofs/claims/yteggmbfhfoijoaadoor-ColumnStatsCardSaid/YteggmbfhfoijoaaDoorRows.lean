/-
  NARROWER THAN 'FOR EVERY INPUT', by the rows' own cells (each row's printed sentence says how): ColumnTurned: laid · ColumnStats: laid.
  DERIVED. THE GIVEN ROWS OF THIS SEAT. 2 by the template 'for every input the law returns true; each argument reads behind the call as it read before'; 0 by the template 'total and deterministic' (their statements: YteggmbfhfoijoaaDoorTotals.lean).
  GIVEN WITH THE SEED: the statements are not yours to turn. If you find one false, say at which input.
  Laid BY PROGRAM, IN A SANDBOX (cutbox-rows.mjs): the forced cells as the released guide's own fill.sh prints them over the translation aca6309833f7a817… (all of the seat's roots in one cut). By AI agents, Wed Nov 11 2026. No macro, syntax, notation, axiom, sorry.
-/
import Derived.Test.YteggmbfhfoijoaaDoorChecked
import GoSem.Claim
import GoSem.ClaimJoined
import GoSem.ClaimMapViews
import Derived.JoinedTies
import Derived.KernelRfl
namespace Go.Proofs.YteggmbfhfoijoaaDoor
/- THE CELL 'sum', in the pinned program and in every row, IS THE sha256 OF THE DUMP (.gsa) THAT YteggmbfhfoijoaaDoorProg.lean LOADS. Nothing in Lean hashes anything: it is a label: what it is worth is what the hold of that sum in a sandbox is worth. -/
noncomputable def Tryd.pinned : Pinned := { name := "yteggmbfhfoijoaadoor", sum := "aca6309833f7a81731d4f4ecfeac26cec0a2859ee52515954f6a7263c6994c82", checked := Tryd.checked }
namespace Rows
def none {H : Type} : Left H := { results := [], args := [] }

/- WHAT THE LISTED PACKAGE-LEVEL VARIABLES READ AS WHEN THE CALL BEGINS. Each datum BY PROGRAM (the guide's laid-datum.mjs) off the statement by which the dump's own 'gosem.cut.vars' lays the variable. In a bare row this is a premise. The card (YteggmbfhfoijoaaDoorCards.lean) ties it to the program's text. -/
def laid_entrepot_crc_steps {H : Type} : DataW H := .agg [.lit (.int .u32 0), .lit (.int .u32 498536548), .lit (.int .u32 997073096), .lit (.int .u32 651767980), .lit (.int .u32 1994146192), .lit (.int .u32 1802195444), .lit (.int .u32 1303535960), .lit (.int .u32 1342533948), .lit (.int .u32 3988292384), .lit (.int .u32 4027552580), .lit (.int .u32 3604390888), .lit (.int .u32 3412177804), .lit (.int .u32 2607071920), .lit (.int .u32 2262029012), .lit (.int .u32 2685067896), .lit (.int .u32 3183342108)]
def laid_entrepot_inflate_order {H : Type} : DataW H := .agg [.lit (.int .i64 16), .lit (.int .i64 17), .lit (.int .i64 18), .lit (.int .i64 0), .lit (.int .i64 8), .lit (.int .i64 7), .lit (.int .i64 9), .lit (.int .i64 6), .lit (.int .i64 10), .lit (.int .i64 5), .lit (.int .i64 11), .lit (.int .i64 4), .lit (.int .i64 12), .lit (.int .i64 3), .lit (.int .i64 13), .lit (.int .i64 2), .lit (.int .i64 14), .lit (.int .i64 1), .lit (.int .i64 15)]

/-- 'entrepotlaw10.ColumnTurned': WHATEVER THE INPUT: true; the input reads as it did. -/
def columnTurnedSpec : ChangeSpec := { name := "columnTurned", fn := fun _ => fun
  | [d1, d2, d3] => { results := [.lit (.bool true)], args := [d1, d2, d3] }
  | _ => none }
def columnTurnedRow : OpenClaim := { program := "yteggmbfhfoijoaadoor", sum := "aca6309833f7a81731d4f4ecfeac26cec0a2859ee52515954f6a7263c6994c82", func := "entrepot/entrepotlaw10.ColumnTurned", spec := "columnTurned", unfollowed := true, recurses := true, named := ["entrepot/crc.steps", "entrepot/inflate.order"], plainKeys := false, apart := false, laid := [("entrepot/crc.steps", laid_entrepot_crc_steps), ("entrepot/inflate.order", laid_entrepot_inflate_order)] }
def ColumnTurnedSaid : Prop := columnTurnedRow.holds Tryd.pinned (OpenSpec.ofChange columnTurnedSpec)

/-- ITS FALSE NEIGHBOUR: 'it returns false'. Refute it at one input. -/
def columnTurnedWrong : ChangeSpec := { name := "columnTurned", fn := fun _ => fun
  | [d1, d2, d3] => { results := [.lit (.bool false)], args := [d1, d2, d3] }
  | _ => none }
def ColumnTurnedWrongFalsely : Prop := columnTurnedRow.holds Tryd.pinned (OpenSpec.ofChange columnTurnedWrong)

/-- 'entrepotlaw10.ColumnStats': WHATEVER THE INPUT: true; the input reads as it did. -/
def columnStatsSpec : ChangeSpec := { name := "columnStats", fn := fun _ => fun
  | [d1, d2, d3, d4] => { results := [.lit (.bool true)], args := [d1, d2, d3, d4] }
  | _ => none }
def columnStatsRow : OpenClaim := { program := "yteggmbfhfoijoaadoor", sum := "aca6309833f7a81731d4f4ecfeac26cec0a2859ee52515954f6a7263c6994c82", func := "entrepot/entrepotlaw10.ColumnStats", spec := "columnStats", unfollowed := true, recurses := true, named := ["entrepot/crc.steps", "entrepot/inflate.order"], plainKeys := false, apart := false, laid := [("entrepot/crc.steps", laid_entrepot_crc_steps), ("entrepot/inflate.order", laid_entrepot_inflate_order)] }
def ColumnStatsSaid : Prop := columnStatsRow.holds Tryd.pinned (OpenSpec.ofChange columnStatsSpec)

/-- ITS FALSE NEIGHBOUR: 'it returns false'. Refute it at one input. -/
def columnStatsWrong : ChangeSpec := { name := "columnStats", fn := fun _ => fun
  | [d1, d2, d3, d4] => { results := [.lit (.bool false)], args := [d1, d2, d3, d4] }
  | _ => none }
def ColumnStatsWrongFalsely : Prop := columnStatsRow.holds Tryd.pinned (OpenSpec.ofChange columnStatsWrong)

/- THE SECOND FORM. 'bulk': how many values and letters a reading holds, each counted each time it is reached (what is shared counts as often as it is met; a slice's spare places count too). A statement '..UptoSaid' is the law's where the arguments, and the package variables that the reading takes, are together of bulk at most 1048576: NARROWER than '..Said'. Prove '..Said' where nothing that the law and all that it calls make is longer than what came in: it says more and counts as full. Else prove '..UptoSaid'. A law counts once. -/
mutual
def uptoBulk {H : Type} : DataW H → Nat
  | .lit (.string bytes) => bytes.length + 1
  | .lit _ => 1
  | .nil => 1
  | .ptr d => uptoBulk d + 1
  | .slice elems spare => uptoBulkAll elems + uptoBulkAll spare + 1
  | .agg parts => uptoBulkAll parts + 1
  | .iface _ d => uptoBulk d + 1
  | .map entries => uptoBulkEntries entries + 1
  | .held _ => 1
def uptoBulkAll {H : Type} : List (DataW H) → Nat
  | [] => 0
  | d :: r => uptoBulk d + uptoBulkAll r
def uptoBulkEntries {H : Type} : List (Lit × DataW H) → Nat
  | [] => 0
  | x :: r => uptoBulkEntry x + uptoBulkEntries r
def uptoBulkEntry {H : Type} : Lit × DataW H → Nat
  | (.string bytes, d) => bytes.length + uptoBulk d + 1
  | (_, d) => uptoBulk d + 1
 end
def uptoSmall : (H : Type) → List (DataW H) → Bool := fun _ ds => decide (uptoBulkAll ds ≤ 1048576)
def OpenSpec.upto (s : _root_.Go.ChangeSpec) : _root_.Go.OpenSpec := { _root_.Go.OpenSpec.ofChange s with cond := some uptoSmall }

/-- 'entrepotlaw10.ColumnTurned', WHERE WHAT IT READS IS OF BULK AT MOST 1048576: true; the input reads as it did. -/
def columnTurnedUptoRow : OpenClaim := { program := "yteggmbfhfoijoaadoor", sum := "aca6309833f7a81731d4f4ecfeac26cec0a2859ee52515954f6a7263c6994c82", func := "entrepot/entrepotlaw10.ColumnTurned", spec := "columnTurned", unfollowed := true, recurses := true, named := ["entrepot/crc.steps", "entrepot/inflate.order"], plainKeys := false, apart := false, laid := [("entrepot/crc.steps", laid_entrepot_crc_steps), ("entrepot/inflate.order", laid_entrepot_inflate_order)], narrowed := true }
def ColumnTurnedUptoSaid : Prop := columnTurnedUptoRow.holds Tryd.pinned (OpenSpec.upto columnTurnedSpec)

/-- 'entrepotlaw10.ColumnStats', WHERE WHAT IT READS IS OF BULK AT MOST 1048576: true; the input reads as it did. -/
def columnStatsUptoRow : OpenClaim := { program := "yteggmbfhfoijoaadoor", sum := "aca6309833f7a81731d4f4ecfeac26cec0a2859ee52515954f6a7263c6994c82", func := "entrepot/entrepotlaw10.ColumnStats", spec := "columnStats", unfollowed := true, recurses := true, named := ["entrepot/crc.steps", "entrepot/inflate.order"], plainKeys := false, apart := false, laid := [("entrepot/crc.steps", laid_entrepot_crc_steps), ("entrepot/inflate.order", laid_entrepot_inflate_order)], narrowed := true }
def ColumnStatsUptoSaid : Prop := columnStatsUptoRow.holds Tryd.pinned (OpenSpec.upto columnStatsSpec)

end Rows
end Go.Proofs.YteggmbfhfoijoaaDoor
