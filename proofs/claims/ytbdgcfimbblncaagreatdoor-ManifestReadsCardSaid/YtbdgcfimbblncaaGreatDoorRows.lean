/-
  NARROWER THAN 'FOR EVERY INPUT', by the rows' own cells (each row's printed sentence says how): ManifestCodes: laid · ManifestReads: laid · ManifestBack: laid.
  DERIVED. THE GIVEN ROWS OF THIS SEAT. 3 by the template 'for every input the law returns true; each argument reads behind the call as it read before'; 0 by the template 'total and deterministic' (their statements: YtbdgcfimbblncaaGreatDoorTotals.lean).
  GIVEN WITH THE SEED: the statements are not yours to turn. If you find one false, say at which input.
  Laid BY PROGRAM, IN A SANDBOX (cutbox-rows.mjs): the forced cells as the released guide's own fill.sh prints them over the translation b2b4dad247ecd362… (all of the seat's roots in one cut). By AI agents, Wed Nov 11 2026. No macro, syntax, notation, axiom, sorry.
-/
import Derived.Test.YtbdgcfimbblncaaGreatDoorChecked
import GoSem.Claim
import GoSem.ClaimJoined
import GoSem.ClaimMapViews
import Derived.JoinedTies
import Derived.KernelRfl
namespace Go.Proofs.YtbdgcfimbblncaaGreatDoor
/- THE CELL 'sum', in the pinned program and in every row, IS THE sha256 OF THE DUMP (.gsa) THAT YtbdgcfimbblncaaGreatDoorProg.lean LOADS. Nothing in Lean hashes anything: it is a label: what it is worth is what the hold of that sum in a sandbox is worth. -/
noncomputable def Tryz.pinned : Pinned := { name := "ytbdgcfimbblncaagreatdoor", sum := "b2b4dad247ecd3626f8657afdae7707cb9f7fd8b9529bd0d5fcc4520ce159134", checked := Tryz.checked }
namespace Rows
def none {H : Type} : Left H := { results := [], args := [] }

/- WHAT THE LISTED PACKAGE-LEVEL VARIABLES READ AS WHEN THE CALL BEGINS. Each datum BY PROGRAM (the guide's laid-datum.mjs) off the statement by which the dump's own 'gosem.cut.vars' lays the variable. In a bare row this is a premise. The card (YtbdgcfimbblncaaGreatDoorCards.lean) ties it to the program's text. -/
def laid_entrepot_crc_steps {H : Type} : DataW H := .agg [.lit (.int .u32 0), .lit (.int .u32 498536548), .lit (.int .u32 997073096), .lit (.int .u32 651767980), .lit (.int .u32 1994146192), .lit (.int .u32 1802195444), .lit (.int .u32 1303535960), .lit (.int .u32 1342533948), .lit (.int .u32 3988292384), .lit (.int .u32 4027552580), .lit (.int .u32 3604390888), .lit (.int .u32 3412177804), .lit (.int .u32 2607071920), .lit (.int .u32 2262029012), .lit (.int .u32 2685067896), .lit (.int .u32 3183342108)]

/-- 'entrepotlaw13.ManifestCodes': WHATEVER THE INPUT: true; the input reads as it did. -/
def manifestCodesSpec : ChangeSpec := { name := "manifestCodes", fn := fun _ => fun
  | [d] => { results := [.lit (.bool true)], args := [d] }
  | _ => none }
def manifestCodesRow : OpenClaim := { program := "ytbdgcfimbblncaagreatdoor", sum := "b2b4dad247ecd3626f8657afdae7707cb9f7fd8b9529bd0d5fcc4520ce159134", func := "entrepot/entrepotlaw13.ManifestCodes", spec := "manifestCodes", inPlace := ["internal/bytealg.IndexByteString", "internal/bytealg.IndexString", "slices.overlaps[entrepot/api.Mark]", "slices.overlaps[entrepot/api.Owner]"], unfollowed := true, recurses := true, named := ["internal/bytealg.MaxLen", "entrepot/crc.steps"], apart := false, laid := [("entrepot/crc.steps", laid_entrepot_crc_steps)] }
def ManifestCodesSaid : Prop := manifestCodesRow.holds Tryz.pinned (OpenSpec.ofChange manifestCodesSpec)

/-- ITS FALSE NEIGHBOUR: 'it returns false'. Refute it at one input. -/
def manifestCodesWrong : ChangeSpec := { name := "manifestCodes", fn := fun _ => fun
  | [d] => { results := [.lit (.bool false)], args := [d] }
  | _ => none }
def ManifestCodesWrongFalsely : Prop := manifestCodesRow.holds Tryz.pinned (OpenSpec.ofChange manifestCodesWrong)

/-- 'entrepotlaw13.ManifestReads': WHATEVER THE INPUT: true; the input reads as it did. -/
def manifestReadsSpec : ChangeSpec := { name := "manifestReads", fn := fun _ => fun
  | [d] => { results := [.lit (.bool true)], args := [d] }
  | _ => none }
def manifestReadsRow : OpenClaim := { program := "ytbdgcfimbblncaagreatdoor", sum := "b2b4dad247ecd3626f8657afdae7707cb9f7fd8b9529bd0d5fcc4520ce159134", func := "entrepot/entrepotlaw13.ManifestReads", spec := "manifestReads", inPlace := ["internal/bytealg.IndexByteString", "internal/bytealg.IndexString", "slices.overlaps[entrepot/api.Mark]", "slices.overlaps[entrepot/api.Owner]"], unfollowed := true, recurses := true, named := ["internal/bytealg.MaxLen", "entrepot/crc.steps"], apart := false, laid := [("entrepot/crc.steps", laid_entrepot_crc_steps)] }
def ManifestReadsSaid : Prop := manifestReadsRow.holds Tryz.pinned (OpenSpec.ofChange manifestReadsSpec)

/-- ITS FALSE NEIGHBOUR: 'it returns false'. Refute it at one input. -/
def manifestReadsWrong : ChangeSpec := { name := "manifestReads", fn := fun _ => fun
  | [d] => { results := [.lit (.bool false)], args := [d] }
  | _ => none }
def ManifestReadsWrongFalsely : Prop := manifestReadsRow.holds Tryz.pinned (OpenSpec.ofChange manifestReadsWrong)

/-- 'entrepotlaw13.ManifestBack': WHATEVER THE INPUT: true; the input reads as it did. -/
def manifestBackSpec : ChangeSpec := { name := "manifestBack", fn := fun _ => fun
  | [d1, d2] => { results := [.lit (.bool true)], args := [d1, d2] }
  | _ => none }
def manifestBackRow : OpenClaim := { program := "ytbdgcfimbblncaagreatdoor", sum := "b2b4dad247ecd3626f8657afdae7707cb9f7fd8b9529bd0d5fcc4520ce159134", func := "entrepot/entrepotlaw13.ManifestBack", spec := "manifestBack", inPlace := ["internal/bytealg.IndexByteString", "internal/bytealg.IndexString", "slices.overlaps[entrepot/api.Mark]", "slices.overlaps[entrepot/api.Owner]"], unfollowed := true, recurses := true, named := ["internal/bytealg.MaxLen", "entrepot/crc.steps"], apart := false, laid := [("entrepot/crc.steps", laid_entrepot_crc_steps)] }
def ManifestBackSaid : Prop := manifestBackRow.holds Tryz.pinned (OpenSpec.ofChange manifestBackSpec)

/-- ITS FALSE NEIGHBOUR: 'it returns false'. Refute it at one input. -/
def manifestBackWrong : ChangeSpec := { name := "manifestBack", fn := fun _ => fun
  | [d1, d2] => { results := [.lit (.bool false)], args := [d1, d2] }
  | _ => none }
def ManifestBackWrongFalsely : Prop := manifestBackRow.holds Tryz.pinned (OpenSpec.ofChange manifestBackWrong)

/- THE SECOND FORM. 'bulk': how many values and letters a reading holds, each counted each time it is reached (what is shared counts as often as it is met; a slice's spare places count too). A statement '..UptoSaid' is the law's where the arguments, and the package variables that the reading takes, are together of bulk at most 1048576: NARROWER than '..Said'. Prove '..Said' where nothing that the law and all that it calls make is longer than what came in: it says more and counts as full. Else prove '..UptoSaid'. A law counts once. -/
mutual
def uptoBulk {H : Type} : DataW H → Nat
  | .lit (.string bytes) => bytes.length + 1
  | .lit _ => 1
  | .nil => 1
  | .ptr d => uptoBulk d + 1
  | .slice elems spare => uptoBulkAll elems + uptoBulkAll spare + 1
  | .agg parts => uptoBulkAll parts + 1
  | .iface _ d => uptoBulk d + 1
  | .map entries => uptoBulkEntries entries + 1
  | .held _ => 1
def uptoBulkAll {H : Type} : List (DataW H) → Nat
  | [] => 0
  | d :: r => uptoBulk d + uptoBulkAll r
def uptoBulkEntries {H : Type} : List (Lit × DataW H) → Nat
  | [] => 0
  | x :: r => uptoBulkEntry x + uptoBulkEntries r
def uptoBulkEntry {H : Type} : Lit × DataW H → Nat
  | (.string bytes, d) => bytes.length + uptoBulk d + 1
  | (_, d) => uptoBulk d + 1
 end
def uptoSmall : (H : Type) → List (DataW H) → Bool := fun _ ds => decide (uptoBulkAll ds ≤ 1048576)
def OpenSpec.upto (s : _root_.Go.ChangeSpec) : _root_.Go.OpenSpec := { _root_.Go.OpenSpec.ofChange s with cond := some uptoSmall }

/-- 'entrepotlaw13.ManifestCodes', WHERE WHAT IT READS IS OF BULK AT MOST 1048576: true; the input reads as it did. -/
def manifestCodesUptoRow : OpenClaim := { program := "ytbdgcfimbblncaagreatdoor", sum := "b2b4dad247ecd3626f8657afdae7707cb9f7fd8b9529bd0d5fcc4520ce159134", func := "entrepot/entrepotlaw13.ManifestCodes", spec := "manifestCodes", inPlace := ["internal/bytealg.IndexByteString", "internal/bytealg.IndexString", "slices.overlaps[entrepot/api.Mark]", "slices.overlaps[entrepot/api.Owner]"], unfollowed := true, recurses := true, named := ["internal/bytealg.MaxLen", "entrepot/crc.steps"], apart := false, laid := [("entrepot/crc.steps", laid_entrepot_crc_steps)], narrowed := true }
def ManifestCodesUptoSaid : Prop := manifestCodesUptoRow.holds Tryz.pinned (OpenSpec.upto manifestCodesSpec)

/-- 'entrepotlaw13.ManifestReads', WHERE WHAT IT READS IS OF BULK AT MOST 1048576: true; the input reads as it did. -/
def manifestReadsUptoRow : OpenClaim := { program := "ytbdgcfimbblncaagreatdoor", sum := "b2b4dad247ecd3626f8657afdae7707cb9f7fd8b9529bd0d5fcc4520ce159134", func := "entrepot/entrepotlaw13.ManifestReads", spec := "manifestReads", inPlace := ["internal/bytealg.IndexByteString", "internal/bytealg.IndexString", "slices.overlaps[entrepot/api.Mark]", "slices.overlaps[entrepot/api.Owner]"], unfollowed := true, recurses := true, named := ["internal/bytealg.MaxLen", "entrepot/crc.steps"], apart := false, laid := [("entrepot/crc.steps", laid_entrepot_crc_steps)], narrowed := true }
def ManifestReadsUptoSaid : Prop := manifestReadsUptoRow.holds Tryz.pinned (OpenSpec.upto manifestReadsSpec)

/-- 'entrepotlaw13.ManifestBack', WHERE WHAT IT READS IS OF BULK AT MOST 1048576: true; the input reads as it did. -/
def manifestBackUptoRow : OpenClaim := { program := "ytbdgcfimbblncaagreatdoor", sum := "b2b4dad247ecd3626f8657afdae7707cb9f7fd8b9529bd0d5fcc4520ce159134", func := "entrepot/entrepotlaw13.ManifestBack", spec := "manifestBack", inPlace := ["internal/bytealg.IndexByteString", "internal/bytealg.IndexString", "slices.overlaps[entrepot/api.Mark]", "slices.overlaps[entrepot/api.Owner]"], unfollowed := true, recurses := true, named := ["internal/bytealg.MaxLen", "entrepot/crc.steps"], apart := false, laid := [("entrepot/crc.steps", laid_entrepot_crc_steps)], narrowed := true }
def ManifestBackUptoSaid : Prop := manifestBackUptoRow.holds Tryz.pinned (OpenSpec.upto manifestBackSpec)

end Rows
end Go.Proofs.YtbdgcfimbblncaaGreatDoor
