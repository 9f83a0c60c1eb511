/-
  No cell of these rows narrows 'for every input' (looked for: loops, veiled, ifaces, maps, wideKeys, modest, calm, conditions, laid).
  DERIVED. THE GIVEN ROWS OF THIS SEAT. 6 by the template 'for every input the law returns true; each argument reads behind the call as it read before'; 0 by the template 'total and deterministic' (their statements: YteihbbmbdkkbbaaTotals.lean).
  GIVEN WITH THE SEED: the statements are not yours to turn. If you find one false, say at which input.
  Laid BY PROGRAM, IN A SANDBOX (cutbox-rows.mjs): the forced cells as the released guide's own fill.sh prints them over the translation fd16ec5a8cbfd672… (all of the seat's roots in one cut). By AI agents, Wed Nov 11 2026. No macro, syntax, notation, axiom, sorry.
-/
import Derived.Test.YteihbbmbdkkbbaaChecked
import GoSem.Claim
import GoSem.ClaimJoined
import GoSem.ClaimMapViews
import Derived.JoinedTies
import Derived.KernelRfl
namespace Go.Proofs.Yteihbbmbdkkbbaa
/- THE CELL 'sum', in the pinned program and in every row, IS THE sha256 OF THE DUMP (.gsa) THAT YteihbbmbdkkbbaaProg.lean LOADS. Nothing in Lean hashes anything: it is a label: what it is worth is what the hold of that sum in a sandbox is worth. -/
noncomputable def Try.pinned : Pinned := { name := "yteihbbmbdkkbbaa", sum := "fd16ec5a8cbfd6723a540369a3f9cdb3f6a9819bdd3943bf988379a582c7eee8", checked := Try.checked }
namespace Rows
def none {H : Type} : Left H := { results := [], args := [] }

/-- 'entrepotlaw16.MergeHeaps': WHATEVER THE INPUT: true; the input reads as it did. -/
def mergeHeapsSpec : ChangeSpec := { name := "mergeHeaps", fn := fun _ => fun
  | [d] => { results := [.lit (.bool true)], args := [d] }
  | _ => none }
def mergeHeapsRow : OpenClaim := { program := "yteihbbmbdkkbbaa", sum := "fd16ec5a8cbfd6723a540369a3f9cdb3f6a9819bdd3943bf988379a582c7eee8", func := "entrepot/entrepotlaw16.MergeHeaps", spec := "mergeHeaps", unfollowed := true, recurses := true, apart := false }
def MergeHeapsSaid : Prop := mergeHeapsRow.holds Try.pinned (OpenSpec.ofChange mergeHeapsSpec)

/-- ITS FALSE NEIGHBOUR: 'it returns false'. Refute it at one input. -/
def mergeHeapsWrong : ChangeSpec := { name := "mergeHeaps", fn := fun _ => fun
  | [d] => { results := [.lit (.bool false)], args := [d] }
  | _ => none }
def MergeHeapsWrongFalsely : Prop := mergeHeapsRow.holds Try.pinned (OpenSpec.ofChange mergeHeapsWrong)

/-- 'entrepotlaw16.MergeRows': WHATEVER THE INPUT: true; the input reads as it did. -/
def mergeRowsSpec : ChangeSpec := { name := "mergeRows", fn := fun _ => fun
  | [d] => { results := [.lit (.bool true)], args := [d] }
  | _ => none }
def mergeRowsRow : OpenClaim := { program := "yteihbbmbdkkbbaa", sum := "fd16ec5a8cbfd6723a540369a3f9cdb3f6a9819bdd3943bf988379a582c7eee8", func := "entrepot/entrepotlaw16.MergeRows", spec := "mergeRows", unfollowed := true, recurses := true, apart := false }
def MergeRowsSaid : Prop := mergeRowsRow.holds Try.pinned (OpenSpec.ofChange mergeRowsSpec)

/-- ITS FALSE NEIGHBOUR: 'it returns false'. Refute it at one input. -/
def mergeRowsWrong : ChangeSpec := { name := "mergeRows", fn := fun _ => fun
  | [d] => { results := [.lit (.bool false)], args := [d] }
  | _ => none }
def MergeRowsWrongFalsely : Prop := mergeRowsRow.holds Try.pinned (OpenSpec.ofChange mergeRowsWrong)

/-- 'entrepotlaw16.MergeKeeps': WHATEVER THE INPUT: true; the input reads as it did. -/
def mergeKeepsSpec : ChangeSpec := { name := "mergeKeeps", fn := fun _ => fun
  | [d] => { results := [.lit (.bool true)], args := [d] }
  | _ => none }
def mergeKeepsRow : OpenClaim := { program := "yteihbbmbdkkbbaa", sum := "fd16ec5a8cbfd6723a540369a3f9cdb3f6a9819bdd3943bf988379a582c7eee8", func := "entrepot/entrepotlaw16.MergeKeeps", spec := "mergeKeeps", unfollowed := true, recurses := true, apart := false }
def MergeKeepsSaid : Prop := mergeKeepsRow.holds Try.pinned (OpenSpec.ofChange mergeKeepsSpec)

/-- ITS FALSE NEIGHBOUR: 'it returns false'. Refute it at one input. -/
def mergeKeepsWrong : ChangeSpec := { name := "mergeKeeps", fn := fun _ => fun
  | [d] => { results := [.lit (.bool false)], args := [d] }
  | _ => none }
def MergeKeepsWrongFalsely : Prop := mergeKeepsRow.holds Try.pinned (OpenSpec.ofChange mergeKeepsWrong)

/-- 'entrepotlaw16.MergeChooses': WHATEVER THE INPUT: true; the input reads as it did. -/
def mergeChoosesSpec : ChangeSpec := { name := "mergeChooses", fn := fun _ => fun
  | [d1, d2, d3] => { results := [.lit (.bool true)], args := [d1, d2, d3] }
  | _ => none }
def mergeChoosesRow : OpenClaim := { program := "yteihbbmbdkkbbaa", sum := "fd16ec5a8cbfd6723a540369a3f9cdb3f6a9819bdd3943bf988379a582c7eee8", func := "entrepot/entrepotlaw16.MergeChooses", spec := "mergeChooses", unfollowed := true, recurses := true, apart := false }
def MergeChoosesSaid : Prop := mergeChoosesRow.holds Try.pinned (OpenSpec.ofChange mergeChoosesSpec)

/-- ITS FALSE NEIGHBOUR: 'it returns false'. Refute it at one input. -/
def mergeChoosesWrong : ChangeSpec := { name := "mergeChooses", fn := fun _ => fun
  | [d1, d2, d3] => { results := [.lit (.bool false)], args := [d1, d2, d3] }
  | _ => none }
def MergeChoosesWrongFalsely : Prop := mergeChoosesRow.holds Try.pinned (OpenSpec.ofChange mergeChoosesWrong)

/-- 'entrepotlaw16.MergeEnds': WHATEVER THE INPUT: true; the input reads as it did. -/
def mergeEndsSpec : ChangeSpec := { name := "mergeEnds", fn := fun _ => fun
  | [d1, d2, d3] => { results := [.lit (.bool true)], args := [d1, d2, d3] }
  | _ => none }
def mergeEndsRow : OpenClaim := { program := "yteihbbmbdkkbbaa", sum := "fd16ec5a8cbfd6723a540369a3f9cdb3f6a9819bdd3943bf988379a582c7eee8", func := "entrepot/entrepotlaw16.MergeEnds", spec := "mergeEnds", unfollowed := true, recurses := true, apart := false }
def MergeEndsSaid : Prop := mergeEndsRow.holds Try.pinned (OpenSpec.ofChange mergeEndsSpec)

/-- ITS FALSE NEIGHBOUR: 'it returns false'. Refute it at one input. -/
def mergeEndsWrong : ChangeSpec := { name := "mergeEnds", fn := fun _ => fun
  | [d1, d2, d3] => { results := [.lit (.bool false)], args := [d1, d2, d3] }
  | _ => none }
def MergeEndsWrongFalsely : Prop := mergeEndsRow.holds Try.pinned (OpenSpec.ofChange mergeEndsWrong)

/-- 'entrepotlaw16.MergeTurns': WHATEVER THE INPUT: true; the input reads as it did. -/
def mergeTurnsSpec : ChangeSpec := { name := "mergeTurns", fn := fun _ => fun
  | [d1, d2] => { results := [.lit (.bool true)], args := [d1, d2] }
  | _ => none }
def mergeTurnsRow : OpenClaim := { program := "yteihbbmbdkkbbaa", sum := "fd16ec5a8cbfd6723a540369a3f9cdb3f6a9819bdd3943bf988379a582c7eee8", func := "entrepot/entrepotlaw16.MergeTurns", spec := "mergeTurns", unfollowed := true, recurses := true, apart := false }
def MergeTurnsSaid : Prop := mergeTurnsRow.holds Try.pinned (OpenSpec.ofChange mergeTurnsSpec)

/-- ITS FALSE NEIGHBOUR: 'it returns false'. Refute it at one input. -/
def mergeTurnsWrong : ChangeSpec := { name := "mergeTurns", fn := fun _ => fun
  | [d1, d2] => { results := [.lit (.bool false)], args := [d1, d2] }
  | _ => none }
def MergeTurnsWrongFalsely : Prop := mergeTurnsRow.holds Try.pinned (OpenSpec.ofChange mergeTurnsWrong)

/- THE SECOND FORM. 'bulk': how many values and letters a reading holds, each counted each time it is reached (what is shared counts as often as it is met; a slice's spare places count too). A statement '..UptoSaid' is the law's where the arguments, and the package variables that the reading takes, are together of bulk at most 1048576: NARROWER than '..Said'. Prove '..Said' where nothing that the law and all that it calls make is longer than what came in: it says more and counts as full. Else prove '..UptoSaid'. A law counts once. -/
mutual
def uptoBulk {H : Type} : DataW H → Nat
  | .lit (.string bytes) => bytes.length + 1
  | .lit _ => 1
  | .nil => 1
  | .ptr d => uptoBulk d + 1
  | .slice elems spare => uptoBulkAll elems + uptoBulkAll spare + 1
  | .agg parts => uptoBulkAll parts + 1
  | .iface _ d => uptoBulk d + 1
  | .map entries => uptoBulkEntries entries + 1
  | .held _ => 1
def uptoBulkAll {H : Type} : List (DataW H) → Nat
  | [] => 0
  | d :: r => uptoBulk d + uptoBulkAll r
def uptoBulkEntries {H : Type} : List (Lit × DataW H) → Nat
  | [] => 0
  | x :: r => uptoBulkEntry x + uptoBulkEntries r
def uptoBulkEntry {H : Type} : Lit × DataW H → Nat
  | (.string bytes, d) => bytes.length + uptoBulk d + 1
  | (_, d) => uptoBulk d + 1
 end
def uptoSmall : (H : Type) → List (DataW H) → Bool := fun _ ds => decide (uptoBulkAll ds ≤ 1048576)
def OpenSpec.upto (s : _root_.Go.ChangeSpec) : _root_.Go.OpenSpec := { _root_.Go.OpenSpec.ofChange s with cond := some uptoSmall }

/-- 'entrepotlaw16.MergeHeaps', WHERE WHAT IT READS IS OF BULK AT MOST 1048576: true; the input reads as it did. -/
def mergeHeapsUptoRow : OpenClaim := { program := "yteihbbmbdkkbbaa", sum := "fd16ec5a8cbfd6723a540369a3f9cdb3f6a9819bdd3943bf988379a582c7eee8", func := "entrepot/entrepotlaw16.MergeHeaps", spec := "mergeHeaps", unfollowed := true, recurses := true, apart := false, narrowed := true }
def MergeHeapsUptoSaid : Prop := mergeHeapsUptoRow.holds Try.pinned (OpenSpec.upto mergeHeapsSpec)

/-- 'entrepotlaw16.MergeRows', WHERE WHAT IT READS IS OF BULK AT MOST 1048576: true; the input reads as it did. -/
def mergeRowsUptoRow : OpenClaim := { program := "yteihbbmbdkkbbaa", sum := "fd16ec5a8cbfd6723a540369a3f9cdb3f6a9819bdd3943bf988379a582c7eee8", func := "entrepot/entrepotlaw16.MergeRows", spec := "mergeRows", unfollowed := true, recurses := true, apart := false, narrowed := true }
def MergeRowsUptoSaid : Prop := mergeRowsUptoRow.holds Try.pinned (OpenSpec.upto mergeRowsSpec)

/-- 'entrepotlaw16.MergeKeeps', WHERE WHAT IT READS IS OF BULK AT MOST 1048576: true; the input reads as it did. -/
def mergeKeepsUptoRow : OpenClaim := { program := "yteihbbmbdkkbbaa", sum := "fd16ec5a8cbfd6723a540369a3f9cdb3f6a9819bdd3943bf988379a582c7eee8", func := "entrepot/entrepotlaw16.MergeKeeps", spec := "mergeKeeps", unfollowed := true, recurses := true, apart := false, narrowed := true }
def MergeKeepsUptoSaid : Prop := mergeKeepsUptoRow.holds Try.pinned (OpenSpec.upto mergeKeepsSpec)

/-- 'entrepotlaw16.MergeChooses', WHERE WHAT IT READS IS OF BULK AT MOST 1048576: true; the input reads as it did. -/
def mergeChoosesUptoRow : OpenClaim := { program := "yteihbbmbdkkbbaa", sum := "fd16ec5a8cbfd6723a540369a3f9cdb3f6a9819bdd3943bf988379a582c7eee8", func := "entrepot/entrepotlaw16.MergeChooses", spec := "mergeChooses", unfollowed := true, recurses := true, apart := false, narrowed := true }
def MergeChoosesUptoSaid : Prop := mergeChoosesUptoRow.holds Try.pinned (OpenSpec.upto mergeChoosesSpec)

/-- 'entrepotlaw16.MergeEnds', WHERE WHAT IT READS IS OF BULK AT MOST 1048576: true; the input reads as it did. -/
def mergeEndsUptoRow : OpenClaim := { program := "yteihbbmbdkkbbaa", sum := "fd16ec5a8cbfd6723a540369a3f9cdb3f6a9819bdd3943bf988379a582c7eee8", func := "entrepot/entrepotlaw16.MergeEnds", spec := "mergeEnds", unfollowed := true, recurses := true, apart := false, narrowed := true }
def MergeEndsUptoSaid : Prop := mergeEndsUptoRow.holds Try.pinned (OpenSpec.upto mergeEndsSpec)

/-- 'entrepotlaw16.MergeTurns', WHERE WHAT IT READS IS OF BULK AT MOST 1048576: true; the input reads as it did. -/
def mergeTurnsUptoRow : OpenClaim := { program := "yteihbbmbdkkbbaa", sum := "fd16ec5a8cbfd6723a540369a3f9cdb3f6a9819bdd3943bf988379a582c7eee8", func := "entrepot/entrepotlaw16.MergeTurns", spec := "mergeTurns", unfollowed := true, recurses := true, apart := false, narrowed := true }
def MergeTurnsUptoSaid : Prop := mergeTurnsUptoRow.holds Try.pinned (OpenSpec.upto mergeTurnsSpec)

end Rows
end Go.Proofs.Yteihbbmbdkkbbaa
