/-
  No cell of these rows narrows 'for every input' (looked for: loops, veiled, ifaces, maps, wideKeys, modest, calm, conditions, laid).
  DERIVED. THE GIVEN ROWS OF THIS SEAT. 8 by the template 'for every input the law returns true; each argument reads behind the call as it read before'; 0 by the template 'total and deterministic' (their statements: YtbpimhklekcaiaaTotals.lean).
  GIVEN WITH THE SEED: the statements are not yours to turn. If you find one false, say at which input.
  Laid BY PROGRAM, IN A SANDBOX (cutbox-rows.mjs): the forced cells as the released guide's own fill.sh prints them over the translation 2bcae7cbbddb54e6… (all of the seat's roots in one cut). By AI agents, Wed Nov 11 2026. No macro, syntax, notation, axiom, sorry.
-/
import Derived.Test.YtbpimhklekcaiaaChecked
import GoSem.Claim
import GoSem.ClaimJoined
import GoSem.ClaimMapViews
import Derived.JoinedTies
import Derived.KernelRfl
namespace Go.Proofs.Ytbpimhklekcaiaa
/- THE CELL 'sum', in the pinned program and in every row, IS THE sha256 OF THE DUMP (.gsa) THAT YtbpimhklekcaiaaProg.lean LOADS. Nothing in Lean hashes anything: it is a label: what it is worth is what the hold of that sum in a sandbox is worth. -/
noncomputable def Try.pinned : Pinned := { name := "ytbpimhklekcaiaa", sum := "2bcae7cbbddb54e60f5447b3595924096ec5690638a599a599c64835718dc119", checked := Try.checked }
namespace Rows
def none {H : Type} : Left H := { results := [], args := [] }

/-- 'entrepotlaw01.NumsPuts': WHATEVER THE INPUT: true; the input reads as it did. -/
def numsPutsSpec : ChangeSpec := { name := "numsPuts", fn := fun _ => fun
  | [d1, d2] => { results := [.lit (.bool true)], args := [d1, d2] }
  | _ => none }
def numsPutsRow : OpenClaim := { program := "ytbpimhklekcaiaa", sum := "2bcae7cbbddb54e60f5447b3595924096ec5690638a599a599c64835718dc119", func := "entrepot/entrepotlaw01.NumsPuts", spec := "numsPuts", apart := false }
def NumsPutsSaid : Prop := numsPutsRow.holds Try.pinned (OpenSpec.ofChange numsPutsSpec)

/-- ITS FALSE NEIGHBOUR: 'it returns false'. Refute it at one input. -/
def numsPutsWrong : ChangeSpec := { name := "numsPuts", fn := fun _ => fun
  | [d1, d2] => { results := [.lit (.bool false)], args := [d1, d2] }
  | _ => none }
def NumsPutsWrongFalsely : Prop := numsPutsRow.holds Try.pinned (OpenSpec.ofChange numsPutsWrong)

/-- 'entrepotlaw01.NumsReads': WHATEVER THE INPUT: true; the input reads as it did. -/
def numsReadsSpec : ChangeSpec := { name := "numsReads", fn := fun _ => fun
  | [d1, d2] => { results := [.lit (.bool true)], args := [d1, d2] }
  | _ => none }
def numsReadsRow : OpenClaim := { program := "ytbpimhklekcaiaa", sum := "2bcae7cbbddb54e60f5447b3595924096ec5690638a599a599c64835718dc119", func := "entrepot/entrepotlaw01.NumsReads", spec := "numsReads", apart := false }
def NumsReadsSaid : Prop := numsReadsRow.holds Try.pinned (OpenSpec.ofChange numsReadsSpec)

/-- ITS FALSE NEIGHBOUR: 'it returns false'. Refute it at one input. -/
def numsReadsWrong : ChangeSpec := { name := "numsReads", fn := fun _ => fun
  | [d1, d2] => { results := [.lit (.bool false)], args := [d1, d2] }
  | _ => none }
def NumsReadsWrongFalsely : Prop := numsReadsRow.holds Try.pinned (OpenSpec.ofChange numsReadsWrong)

/-- 'entrepotlaw01.NumsBack': WHATEVER THE INPUT: true; the input reads as it did. -/
def numsBackSpec : ChangeSpec := { name := "numsBack", fn := fun _ => fun
  | [d1, d2, d3] => { results := [.lit (.bool true)], args := [d1, d2, d3] }
  | _ => none }
def numsBackRow : OpenClaim := { program := "ytbpimhklekcaiaa", sum := "2bcae7cbbddb54e60f5447b3595924096ec5690638a599a599c64835718dc119", func := "entrepot/entrepotlaw01.NumsBack", spec := "numsBack", apart := false }
def NumsBackSaid : Prop := numsBackRow.holds Try.pinned (OpenSpec.ofChange numsBackSpec)

/-- ITS FALSE NEIGHBOUR: 'it returns false'. Refute it at one input. -/
def numsBackWrong : ChangeSpec := { name := "numsBack", fn := fun _ => fun
  | [d1, d2, d3] => { results := [.lit (.bool false)], args := [d1, d2, d3] }
  | _ => none }
def NumsBackWrongFalsely : Prop := numsBackRow.holds Try.pinned (OpenSpec.ofChange numsBackWrong)

/-- 'entrepotlaw01.NumsApart': WHATEVER THE INPUT: true; the input reads as it did. -/
def numsApartSpec : ChangeSpec := { name := "numsApart", fn := fun _ => fun
  | [d1, d2] => { results := [.lit (.bool true)], args := [d1, d2] }
  | _ => none }
def numsApartRow : OpenClaim := { program := "ytbpimhklekcaiaa", sum := "2bcae7cbbddb54e60f5447b3595924096ec5690638a599a599c64835718dc119", func := "entrepot/entrepotlaw01.NumsApart", spec := "numsApart", apart := false }
def NumsApartSaid : Prop := numsApartRow.holds Try.pinned (OpenSpec.ofChange numsApartSpec)

/-- ITS FALSE NEIGHBOUR: 'it returns false'. Refute it at one input. -/
def numsApartWrong : ChangeSpec := { name := "numsApart", fn := fun _ => fun
  | [d1, d2] => { results := [.lit (.bool false)], args := [d1, d2] }
  | _ => none }
def NumsApartWrongFalsely : Prop := numsApartRow.holds Try.pinned (OpenSpec.ofChange numsApartWrong)

/-- 'entrepotlaw01.NumsCursors': WHATEVER THE INPUT: true; the input reads as it did. -/
def numsCursorsSpec : ChangeSpec := { name := "numsCursors", fn := fun _ => fun
  | [d1, d2] => { results := [.lit (.bool true)], args := [d1, d2] }
  | _ => none }
def numsCursorsRow : OpenClaim := { program := "ytbpimhklekcaiaa", sum := "2bcae7cbbddb54e60f5447b3595924096ec5690638a599a599c64835718dc119", func := "entrepot/entrepotlaw01.NumsCursors", spec := "numsCursors", apart := false }
def NumsCursorsSaid : Prop := numsCursorsRow.holds Try.pinned (OpenSpec.ofChange numsCursorsSpec)

/-- ITS FALSE NEIGHBOUR: 'it returns false'. Refute it at one input. -/
def numsCursorsWrong : ChangeSpec := { name := "numsCursors", fn := fun _ => fun
  | [d1, d2] => { results := [.lit (.bool false)], args := [d1, d2] }
  | _ => none }
def NumsCursorsWrongFalsely : Prop := numsCursorsRow.holds Try.pinned (OpenSpec.ofChange numsCursorsWrong)

/-- 'entrepotlaw01.NumsStops': WHATEVER THE INPUT: true; the input reads as it did. -/
def numsStopsSpec : ChangeSpec := { name := "numsStops", fn := fun _ => fun
  | [d1, d2] => { results := [.lit (.bool true)], args := [d1, d2] }
  | _ => none }
def numsStopsRow : OpenClaim := { program := "ytbpimhklekcaiaa", sum := "2bcae7cbbddb54e60f5447b3595924096ec5690638a599a599c64835718dc119", func := "entrepot/entrepotlaw01.NumsStops", spec := "numsStops", apart := false }
def NumsStopsSaid : Prop := numsStopsRow.holds Try.pinned (OpenSpec.ofChange numsStopsSpec)

/-- ITS FALSE NEIGHBOUR: 'it returns false'. Refute it at one input. -/
def numsStopsWrong : ChangeSpec := { name := "numsStops", fn := fun _ => fun
  | [d1, d2] => { results := [.lit (.bool false)], args := [d1, d2] }
  | _ => none }
def NumsStopsWrongFalsely : Prop := numsStopsRow.holds Try.pinned (OpenSpec.ofChange numsStopsWrong)

/-- 'entrepotlaw01.NumsGrows': WHATEVER THE INPUT: true; the input reads as it did. -/
def numsGrowsSpec : ChangeSpec := { name := "numsGrows", fn := fun _ => fun
  | [d1, d2] => { results := [.lit (.bool true)], args := [d1, d2] }
  | _ => none }
def numsGrowsRow : OpenClaim := { program := "ytbpimhklekcaiaa", sum := "2bcae7cbbddb54e60f5447b3595924096ec5690638a599a599c64835718dc119", func := "entrepot/entrepotlaw01.NumsGrows", spec := "numsGrows", apart := false }
def NumsGrowsSaid : Prop := numsGrowsRow.holds Try.pinned (OpenSpec.ofChange numsGrowsSpec)

/-- ITS FALSE NEIGHBOUR: 'it returns false'. Refute it at one input. -/
def numsGrowsWrong : ChangeSpec := { name := "numsGrows", fn := fun _ => fun
  | [d1, d2] => { results := [.lit (.bool false)], args := [d1, d2] }
  | _ => none }
def NumsGrowsWrongFalsely : Prop := numsGrowsRow.holds Try.pinned (OpenSpec.ofChange numsGrowsWrong)

/-- 'entrepotlaw01.NumsJoins': WHATEVER THE INPUT: true; the input reads as it did. -/
def numsJoinsSpec : ChangeSpec := { name := "numsJoins", fn := fun _ => fun
  | [d] => { results := [.lit (.bool true)], args := [d] }
  | _ => none }
def numsJoinsRow : OpenClaim := { program := "ytbpimhklekcaiaa", sum := "2bcae7cbbddb54e60f5447b3595924096ec5690638a599a599c64835718dc119", func := "entrepot/entrepotlaw01.NumsJoins", spec := "numsJoins", apart := false }
def NumsJoinsSaid : Prop := numsJoinsRow.holds Try.pinned (OpenSpec.ofChange numsJoinsSpec)

/-- ITS FALSE NEIGHBOUR: 'it returns false'. Refute it at one input. -/
def numsJoinsWrong : ChangeSpec := { name := "numsJoins", fn := fun _ => fun
  | [d] => { results := [.lit (.bool false)], args := [d] }
  | _ => none }
def NumsJoinsWrongFalsely : Prop := numsJoinsRow.holds Try.pinned (OpenSpec.ofChange numsJoinsWrong)

/- THE SECOND FORM. 'bulk': how many values and letters a reading holds, each counted each time it is reached (what is shared counts as often as it is met; a slice's spare places count too). A statement '..UptoSaid' is the law's where the arguments, and the package variables that the reading takes, are together of bulk at most 1048576: NARROWER than '..Said'. Prove '..Said' where nothing that the law and all that it calls make is longer than what came in: it says more and counts as full. Else prove '..UptoSaid'. A law counts once. -/
mutual
def uptoBulk {H : Type} : DataW H → Nat
  | .lit (.string bytes) => bytes.length + 1
  | .lit _ => 1
  | .nil => 1
  | .ptr d => uptoBulk d + 1
  | .slice elems spare => uptoBulkAll elems + uptoBulkAll spare + 1
  | .agg parts => uptoBulkAll parts + 1
  | .iface _ d => uptoBulk d + 1
  | .map entries => uptoBulkEntries entries + 1
  | .held _ => 1
def uptoBulkAll {H : Type} : List (DataW H) → Nat
  | [] => 0
  | d :: r => uptoBulk d + uptoBulkAll r
def uptoBulkEntries {H : Type} : List (Lit × DataW H) → Nat
  | [] => 0
  | x :: r => uptoBulkEntry x + uptoBulkEntries r
def uptoBulkEntry {H : Type} : Lit × DataW H → Nat
  | (.string bytes, d) => bytes.length + uptoBulk d + 1
  | (_, d) => uptoBulk d + 1
 end
def uptoSmall : (H : Type) → List (DataW H) → Bool := fun _ ds => decide (uptoBulkAll ds ≤ 1048576)
def OpenSpec.upto (s : _root_.Go.ChangeSpec) : _root_.Go.OpenSpec := { _root_.Go.OpenSpec.ofChange s with cond := some uptoSmall }

/-- 'entrepotlaw01.NumsPuts', WHERE WHAT IT READS IS OF BULK AT MOST 1048576: true; the input reads as it did. -/
def numsPutsUptoRow : OpenClaim := { program := "ytbpimhklekcaiaa", sum := "2bcae7cbbddb54e60f5447b3595924096ec5690638a599a599c64835718dc119", func := "entrepot/entrepotlaw01.NumsPuts", spec := "numsPuts", apart := false, narrowed := true }
def NumsPutsUptoSaid : Prop := numsPutsUptoRow.holds Try.pinned (OpenSpec.upto numsPutsSpec)

/-- 'entrepotlaw01.NumsReads', WHERE WHAT IT READS IS OF BULK AT MOST 1048576: true; the input reads as it did. -/
def numsReadsUptoRow : OpenClaim := { program := "ytbpimhklekcaiaa", sum := "2bcae7cbbddb54e60f5447b3595924096ec5690638a599a599c64835718dc119", func := "entrepot/entrepotlaw01.NumsReads", spec := "numsReads", apart := false, narrowed := true }
def NumsReadsUptoSaid : Prop := numsReadsUptoRow.holds Try.pinned (OpenSpec.upto numsReadsSpec)

/-- 'entrepotlaw01.NumsBack', WHERE WHAT IT READS IS OF BULK AT MOST 1048576: true; the input reads as it did. -/
def numsBackUptoRow : OpenClaim := { program := "ytbpimhklekcaiaa", sum := "2bcae7cbbddb54e60f5447b3595924096ec5690638a599a599c64835718dc119", func := "entrepot/entrepotlaw01.NumsBack", spec := "numsBack", apart := false, narrowed := true }
def NumsBackUptoSaid : Prop := numsBackUptoRow.holds Try.pinned (OpenSpec.upto numsBackSpec)

/-- 'entrepotlaw01.NumsApart', WHERE WHAT IT READS IS OF BULK AT MOST 1048576: true; the input reads as it did. -/
def numsApartUptoRow : OpenClaim := { program := "ytbpimhklekcaiaa", sum := "2bcae7cbbddb54e60f5447b3595924096ec5690638a599a599c64835718dc119", func := "entrepot/entrepotlaw01.NumsApart", spec := "numsApart", apart := false, narrowed := true }
def NumsApartUptoSaid : Prop := numsApartUptoRow.holds Try.pinned (OpenSpec.upto numsApartSpec)

/-- 'entrepotlaw01.NumsCursors', WHERE WHAT IT READS IS OF BULK AT MOST 1048576: true; the input reads as it did. -/
def numsCursorsUptoRow : OpenClaim := { program := "ytbpimhklekcaiaa", sum := "2bcae7cbbddb54e60f5447b3595924096ec5690638a599a599c64835718dc119", func := "entrepot/entrepotlaw01.NumsCursors", spec := "numsCursors", apart := false, narrowed := true }
def NumsCursorsUptoSaid : Prop := numsCursorsUptoRow.holds Try.pinned (OpenSpec.upto numsCursorsSpec)

/-- 'entrepotlaw01.NumsStops', WHERE WHAT IT READS IS OF BULK AT MOST 1048576: true; the input reads as it did. -/
def numsStopsUptoRow : OpenClaim := { program := "ytbpimhklekcaiaa", sum := "2bcae7cbbddb54e60f5447b3595924096ec5690638a599a599c64835718dc119", func := "entrepot/entrepotlaw01.NumsStops", spec := "numsStops", apart := false, narrowed := true }
def NumsStopsUptoSaid : Prop := numsStopsUptoRow.holds Try.pinned (OpenSpec.upto numsStopsSpec)

/-- 'entrepotlaw01.NumsGrows', WHERE WHAT IT READS IS OF BULK AT MOST 1048576: true; the input reads as it did. -/
def numsGrowsUptoRow : OpenClaim := { program := "ytbpimhklekcaiaa", sum := "2bcae7cbbddb54e60f5447b3595924096ec5690638a599a599c64835718dc119", func := "entrepot/entrepotlaw01.NumsGrows", spec := "numsGrows", apart := false, narrowed := true }
def NumsGrowsUptoSaid : Prop := numsGrowsUptoRow.holds Try.pinned (OpenSpec.upto numsGrowsSpec)

/-- 'entrepotlaw01.NumsJoins', WHERE WHAT IT READS IS OF BULK AT MOST 1048576: true; the input reads as it did. -/
def numsJoinsUptoRow : OpenClaim := { program := "ytbpimhklekcaiaa", sum := "2bcae7cbbddb54e60f5447b3595924096ec5690638a599a599c64835718dc119", func := "entrepot/entrepotlaw01.NumsJoins", spec := "numsJoins", apart := false, narrowed := true }
def NumsJoinsUptoSaid : Prop := numsJoinsUptoRow.holds Try.pinned (OpenSpec.upto numsJoinsSpec)

end Rows
end Go.Proofs.Ytbpimhklekcaiaa
