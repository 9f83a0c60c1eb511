/-
  NARROWER THAN 'FOR EVERY INPUT', by the rows' own cells (each row's printed sentence says how): ColumnPuts: laid · ColumnReads: laid · ColumnBack: laid · ColumnRuns: laid.
  DERIVED. THE GIVEN ROWS OF THIS SEAT. 4 by the template 'for every input the law returns true; each argument reads behind the call as it read before'; 0 by the template 'total and deterministic' (their statements: YtpbijdoemdoijaaGreatDoorTotals.lean).
  GIVEN WITH THE SEED: the statements are not yours to turn. If you find one false, say at which input.
  Laid BY PROGRAM, IN A SANDBOX (cutbox-rows.mjs): the forced cells as the released guide's own fill.sh prints them over the translation bce1152c0abd5cc8… (all of the seat's roots in one cut). By AI agents, Wed Nov 11 2026. No macro, syntax, notation, axiom, sorry.
-/
import Derived.Test.YtpbijdoemdoijaaGreatDoorChecked
import GoSem.Claim
import GoSem.ClaimJoined
import GoSem.ClaimMapViews
import Derived.JoinedTies
import Derived.KernelRfl
namespace Go.Proofs.YtpbijdoemdoijaaGreatDoor
/- THE CELL 'sum', in the pinned program and in every row, IS THE sha256 OF THE DUMP (.gsa) THAT YtpbijdoemdoijaaGreatDoorProg.lean LOADS. Nothing in Lean hashes anything: it is a label: what it is worth is what the hold of that sum in a sandbox is worth. -/
noncomputable def Tryz.pinned : Pinned := { name := "ytpbijdoemdoijaagreatdoor", sum := "bce1152c0abd5cc853330c34eeb2c9c81d73fb1a3b3544fb648030d4b25a2b28", checked := Tryz.checked }
namespace Rows
def none {H : Type} : Left H := { results := [], args := [] }

/- WHAT THE LISTED PACKAGE-LEVEL VARIABLES READ AS WHEN THE CALL BEGINS. Each datum BY PROGRAM (the guide's laid-datum.mjs) off the statement by which the dump's own 'gosem.cut.vars' lays the variable. In a bare row this is a premise. The card (YtpbijdoemdoijaaGreatDoorCards.lean) ties it to the program's text. -/
def laid_entrepot_crc_steps {H : Type} : DataW H := .agg [.lit (.int .u32 0), .lit (.int .u32 498536548), .lit (.int .u32 997073096), .lit (.int .u32 651767980), .lit (.int .u32 1994146192), .lit (.int .u32 1802195444), .lit (.int .u32 1303535960), .lit (.int .u32 1342533948), .lit (.int .u32 3988292384), .lit (.int .u32 4027552580), .lit (.int .u32 3604390888), .lit (.int .u32 3412177804), .lit (.int .u32 2607071920), .lit (.int .u32 2262029012), .lit (.int .u32 2685067896), .lit (.int .u32 3183342108)]
def laid_entrepot_inflate_order {H : Type} : DataW H := .agg [.lit (.int .i64 16), .lit (.int .i64 17), .lit (.int .i64 18), .lit (.int .i64 0), .lit (.int .i64 8), .lit (.int .i64 7), .lit (.int .i64 9), .lit (.int .i64 6), .lit (.int .i64 10), .lit (.int .i64 5), .lit (.int .i64 11), .lit (.int .i64 4), .lit (.int .i64 12), .lit (.int .i64 3), .lit (.int .i64 13), .lit (.int .i64 2), .lit (.int .i64 14), .lit (.int .i64 1), .lit (.int .i64 15)]

/-- 'entrepotlaw10.ColumnPuts': WHATEVER THE INPUT: true; the input reads as it did. -/
def columnPutsSpec : ChangeSpec := { name := "columnPuts", fn := fun _ => fun
  | [d1, d2, d3] => { results := [.lit (.bool true)], args := [d1, d2, d3] }
  | _ => none }
def columnPutsRow : OpenClaim := { program := "ytpbijdoemdoijaagreatdoor", sum := "bce1152c0abd5cc853330c34eeb2c9c81d73fb1a3b3544fb648030d4b25a2b28", func := "entrepot/entrepotlaw10.ColumnPuts", spec := "columnPuts", unfollowed := true, recurses := true, named := ["entrepot/crc.steps", "entrepot/inflate.order"], plainKeys := false, apart := false, laid := [("entrepot/crc.steps", laid_entrepot_crc_steps), ("entrepot/inflate.order", laid_entrepot_inflate_order)] }
def ColumnPutsSaid : Prop := columnPutsRow.holds Tryz.pinned (OpenSpec.ofChange columnPutsSpec)

/-- ITS FALSE NEIGHBOUR: 'it returns false'. Refute it at one input. -/
def columnPutsWrong : ChangeSpec := { name := "columnPuts", fn := fun _ => fun
  | [d1, d2, d3] => { results := [.lit (.bool false)], args := [d1, d2, d3] }
  | _ => none }
def ColumnPutsWrongFalsely : Prop := columnPutsRow.holds Tryz.pinned (OpenSpec.ofChange columnPutsWrong)

/-- 'entrepotlaw10.ColumnReads': WHATEVER THE INPUT: true; the input reads as it did. -/
def columnReadsSpec : ChangeSpec := { name := "columnReads", fn := fun _ => fun
  | [d] => { results := [.lit (.bool true)], args := [d] }
  | _ => none }
def columnReadsRow : OpenClaim := { program := "ytpbijdoemdoijaagreatdoor", sum := "bce1152c0abd5cc853330c34eeb2c9c81d73fb1a3b3544fb648030d4b25a2b28", func := "entrepot/entrepotlaw10.ColumnReads", spec := "columnReads", unfollowed := true, recurses := true, named := ["entrepot/crc.steps", "entrepot/inflate.order"], plainKeys := false, apart := false, laid := [("entrepot/crc.steps", laid_entrepot_crc_steps), ("entrepot/inflate.order", laid_entrepot_inflate_order)] }
def ColumnReadsSaid : Prop := columnReadsRow.holds Tryz.pinned (OpenSpec.ofChange columnReadsSpec)

/-- ITS FALSE NEIGHBOUR: 'it returns false'. Refute it at one input. -/
def columnReadsWrong : ChangeSpec := { name := "columnReads", fn := fun _ => fun
  | [d] => { results := [.lit (.bool false)], args := [d] }
  | _ => none }
def ColumnReadsWrongFalsely : Prop := columnReadsRow.holds Tryz.pinned (OpenSpec.ofChange columnReadsWrong)

/-- 'entrepotlaw10.ColumnBack': WHATEVER THE INPUT: true; the input reads as it did. -/
def columnBackSpec : ChangeSpec := { name := "columnBack", fn := fun _ => fun
  | [d1, d2, d3] => { results := [.lit (.bool true)], args := [d1, d2, d3] }
  | _ => none }
def columnBackRow : OpenClaim := { program := "ytpbijdoemdoijaagreatdoor", sum := "bce1152c0abd5cc853330c34eeb2c9c81d73fb1a3b3544fb648030d4b25a2b28", func := "entrepot/entrepotlaw10.ColumnBack", spec := "columnBack", unfollowed := true, recurses := true, named := ["entrepot/crc.steps", "entrepot/inflate.order"], plainKeys := false, apart := false, laid := [("entrepot/crc.steps", laid_entrepot_crc_steps), ("entrepot/inflate.order", laid_entrepot_inflate_order)] }
def ColumnBackSaid : Prop := columnBackRow.holds Tryz.pinned (OpenSpec.ofChange columnBackSpec)

/-- ITS FALSE NEIGHBOUR: 'it returns false'. Refute it at one input. -/
def columnBackWrong : ChangeSpec := { name := "columnBack", fn := fun _ => fun
  | [d1, d2, d3] => { results := [.lit (.bool false)], args := [d1, d2, d3] }
  | _ => none }
def ColumnBackWrongFalsely : Prop := columnBackRow.holds Tryz.pinned (OpenSpec.ofChange columnBackWrong)

/-- 'entrepotlaw10.ColumnRuns': WHATEVER THE INPUT: true; the input reads as it did. -/
def columnRunsSpec : ChangeSpec := { name := "columnRuns", fn := fun _ => fun
  | [d1, d2] => { results := [.lit (.bool true)], args := [d1, d2] }
  | _ => none }
def columnRunsRow : OpenClaim := { program := "ytpbijdoemdoijaagreatdoor", sum := "bce1152c0abd5cc853330c34eeb2c9c81d73fb1a3b3544fb648030d4b25a2b28", func := "entrepot/entrepotlaw10.ColumnRuns", spec := "columnRuns", unfollowed := true, recurses := true, named := ["entrepot/crc.steps", "entrepot/inflate.order"], plainKeys := false, apart := false, laid := [("entrepot/crc.steps", laid_entrepot_crc_steps), ("entrepot/inflate.order", laid_entrepot_inflate_order)] }
def ColumnRunsSaid : Prop := columnRunsRow.holds Tryz.pinned (OpenSpec.ofChange columnRunsSpec)

/-- ITS FALSE NEIGHBOUR: 'it returns false'. Refute it at one input. -/
def columnRunsWrong : ChangeSpec := { name := "columnRuns", fn := fun _ => fun
  | [d1, d2] => { results := [.lit (.bool false)], args := [d1, d2] }
  | _ => none }
def ColumnRunsWrongFalsely : Prop := columnRunsRow.holds Tryz.pinned (OpenSpec.ofChange columnRunsWrong)

/- THE SECOND FORM. 'bulk': how many values and letters a reading holds, each counted each time it is reached (what is shared counts as often as it is met; a slice's spare places count too). A statement '..UptoSaid' is the law's where the arguments, and the package variables that the reading takes, are together of bulk at most 1048576: NARROWER than '..Said'. Prove '..Said' where nothing that the law and all that it calls make is longer than what came in: it says more and counts as full. Else prove '..UptoSaid'. A law counts once. -/
mutual
def uptoBulk {H : Type} : DataW H → Nat
  | .lit (.string bytes) => bytes.length + 1
  | .lit _ => 1
  | .nil => 1
  | .ptr d => uptoBulk d + 1
  | .slice elems spare => uptoBulkAll elems + uptoBulkAll spare + 1
  | .agg parts => uptoBulkAll parts + 1
  | .iface _ d => uptoBulk d + 1
  | .map entries => uptoBulkEntries entries + 1
  | .held _ => 1
def uptoBulkAll {H : Type} : List (DataW H) → Nat
  | [] => 0
  | d :: r => uptoBulk d + uptoBulkAll r
def uptoBulkEntries {H : Type} : List (Lit × DataW H) → Nat
  | [] => 0
  | x :: r => uptoBulkEntry x + uptoBulkEntries r
def uptoBulkEntry {H : Type} : Lit × DataW H → Nat
  | (.string bytes, d) => bytes.length + uptoBulk d + 1
  | (_, d) => uptoBulk d + 1
 end
def uptoSmall : (H : Type) → List (DataW H) → Bool := fun _ ds => decide (uptoBulkAll ds ≤ 1048576)
def OpenSpec.upto (s : _root_.Go.ChangeSpec) : _root_.Go.OpenSpec := { _root_.Go.OpenSpec.ofChange s with cond := some uptoSmall }

/-- 'entrepotlaw10.ColumnPuts', WHERE WHAT IT READS IS OF BULK AT MOST 1048576: true; the input reads as it did. -/
def columnPutsUptoRow : OpenClaim := { program := "ytpbijdoemdoijaagreatdoor", sum := "bce1152c0abd5cc853330c34eeb2c9c81d73fb1a3b3544fb648030d4b25a2b28", func := "entrepot/entrepotlaw10.ColumnPuts", spec := "columnPuts", unfollowed := true, recurses := true, named := ["entrepot/crc.steps", "entrepot/inflate.order"], plainKeys := false, apart := false, laid := [("entrepot/crc.steps", laid_entrepot_crc_steps), ("entrepot/inflate.order", laid_entrepot_inflate_order)], narrowed := true }
def ColumnPutsUptoSaid : Prop := columnPutsUptoRow.holds Tryz.pinned (OpenSpec.upto columnPutsSpec)

/-- 'entrepotlaw10.ColumnReads', WHERE WHAT IT READS IS OF BULK AT MOST 1048576: true; the input reads as it did. -/
def columnReadsUptoRow : OpenClaim := { program := "ytpbijdoemdoijaagreatdoor", sum := "bce1152c0abd5cc853330c34eeb2c9c81d73fb1a3b3544fb648030d4b25a2b28", func := "entrepot/entrepotlaw10.ColumnReads", spec := "columnReads", unfollowed := true, recurses := true, named := ["entrepot/crc.steps", "entrepot/inflate.order"], plainKeys := false, apart := false, laid := [("entrepot/crc.steps", laid_entrepot_crc_steps), ("entrepot/inflate.order", laid_entrepot_inflate_order)], narrowed := true }
def ColumnReadsUptoSaid : Prop := columnReadsUptoRow.holds Tryz.pinned (OpenSpec.upto columnReadsSpec)

/-- 'entrepotlaw10.ColumnBack', WHERE WHAT IT READS IS OF BULK AT MOST 1048576: true; the input reads as it did. -/
def columnBackUptoRow : OpenClaim := { program := "ytpbijdoemdoijaagreatdoor", sum := "bce1152c0abd5cc853330c34eeb2c9c81d73fb1a3b3544fb648030d4b25a2b28", func := "entrepot/entrepotlaw10.ColumnBack", spec := "columnBack", unfollowed := true, recurses := true, named := ["entrepot/crc.steps", "entrepot/inflate.order"], plainKeys := false, apart := false, laid := [("entrepot/crc.steps", laid_entrepot_crc_steps), ("entrepot/inflate.order", laid_entrepot_inflate_order)], narrowed := true }
def ColumnBackUptoSaid : Prop := columnBackUptoRow.holds Tryz.pinned (OpenSpec.upto columnBackSpec)

/-- 'entrepotlaw10.ColumnRuns', WHERE WHAT IT READS IS OF BULK AT MOST 1048576: true; the input reads as it did. -/
def columnRunsUptoRow : OpenClaim := { program := "ytpbijdoemdoijaagreatdoor", sum := "bce1152c0abd5cc853330c34eeb2c9c81d73fb1a3b3544fb648030d4b25a2b28", func := "entrepot/entrepotlaw10.ColumnRuns", spec := "columnRuns", unfollowed := true, recurses := true, named := ["entrepot/crc.steps", "entrepot/inflate.order"], plainKeys := false, apart := false, laid := [("entrepot/crc.steps", laid_entrepot_crc_steps), ("entrepot/inflate.order", laid_entrepot_inflate_order)], narrowed := true }
def ColumnRunsUptoSaid : Prop := columnRunsUptoRow.holds Tryz.pinned (OpenSpec.upto columnRunsSpec)

end Rows
end Go.Proofs.YtpbijdoemdoijaaGreatDoor
