/-
  No cell of these rows narrows 'for every input' (looked for: loops, veiled, ifaces, maps, wideKeys, modest, calm, conditions, laid).
  DERIVED. THE GIVEN ROWS OF THIS SEAT. 4 by the template 'for every input the law returns true; each argument reads behind the call as it read before'; 0 by the template 'total and deterministic' (their statements: YtadfmenlpnibnaaGreatTotals.lean).
  GIVEN WITH THE SEED: the statements are not yours to turn. If you find one false, say at which input.
  Laid BY PROGRAM, IN A SANDBOX (cutbox-rows.mjs): the forced cells as the released guide's own fill.sh prints them over the translation 6c3d9dda0dd97cdf… (all of the seat's roots in one cut). By AI agents, Wed Nov 11 2026. No macro, syntax, notation, axiom, sorry.
-/
import Derived.Test.YtadfmenlpnibnaaGreatChecked
import GoSem.Claim
import GoSem.ClaimJoined
import GoSem.ClaimMapViews
import Derived.JoinedTies
import Derived.KernelRfl
namespace Go.Proofs.YtadfmenlpnibnaaGreat
/- THE CELL 'sum', in the pinned program and in every row, IS THE sha256 OF THE DUMP (.gsa) THAT YtadfmenlpnibnaaGreatProg.lean LOADS. Nothing in Lean hashes anything: it is a label: what it is worth is what the hold of that sum in a sandbox is worth. -/
noncomputable def Tryz.pinned : Pinned := { name := "ytadfmenlpnibnaagreat", sum := "6c3d9dda0dd97cdf5fef7c637eb308383583798dc2251dbbbc196d534cec7f16", checked := Tryz.checked }
namespace Rows
def none {H : Type} : Left H := { results := [], args := [] }

/-- 'entrepotlaw13.ManifestApplies': WHATEVER THE INPUT: true; the input reads as it did. -/
def manifestAppliesSpec : ChangeSpec := { name := "manifestApplies", fn := fun _ => fun
  | [d1, d2] => { results := [.lit (.bool true)], args := [d1, d2] }
  | _ => none }
def manifestAppliesRow : OpenClaim := { program := "ytadfmenlpnibnaagreat", sum := "6c3d9dda0dd97cdf5fef7c637eb308383583798dc2251dbbbc196d534cec7f16", func := "entrepot/entrepotlaw13.ManifestApplies", spec := "manifestApplies", inPlace := ["internal/bytealg.IndexByteString", "internal/bytealg.IndexString", "slices.overlaps[entrepot/api.Mark]", "slices.overlaps[entrepot/api.Owner]"], unfollowed := true, recurses := true, named := ["internal/bytealg.MaxLen"], apart := false }
def ManifestAppliesSaid : Prop := manifestAppliesRow.holds Tryz.pinned (OpenSpec.ofChange manifestAppliesSpec)

/-- ITS FALSE NEIGHBOUR: 'it returns false'. Refute it at one input. -/
def manifestAppliesWrong : ChangeSpec := { name := "manifestApplies", fn := fun _ => fun
  | [d1, d2] => { results := [.lit (.bool false)], args := [d1, d2] }
  | _ => none }
def ManifestAppliesWrongFalsely : Prop := manifestAppliesRow.holds Tryz.pinned (OpenSpec.ofChange manifestAppliesWrong)

/-- 'entrepotlaw13.ManifestFinds': WHATEVER THE INPUT: true; the input reads as it did. -/
def manifestFindsSpec : ChangeSpec := { name := "manifestFinds", fn := fun _ => fun
  | [d1, d2, d3, d4] => { results := [.lit (.bool true)], args := [d1, d2, d3, d4] }
  | _ => none }
def manifestFindsRow : OpenClaim := { program := "ytadfmenlpnibnaagreat", sum := "6c3d9dda0dd97cdf5fef7c637eb308383583798dc2251dbbbc196d534cec7f16", func := "entrepot/entrepotlaw13.ManifestFinds", spec := "manifestFinds", inPlace := ["internal/bytealg.IndexByteString", "internal/bytealg.IndexString", "slices.overlaps[entrepot/api.Mark]", "slices.overlaps[entrepot/api.Owner]"], unfollowed := true, recurses := true, named := ["internal/bytealg.MaxLen"], apart := false }
def ManifestFindsSaid : Prop := manifestFindsRow.holds Tryz.pinned (OpenSpec.ofChange manifestFindsSpec)

/-- ITS FALSE NEIGHBOUR: 'it returns false'. Refute it at one input. -/
def manifestFindsWrong : ChangeSpec := { name := "manifestFinds", fn := fun _ => fun
  | [d1, d2, d3, d4] => { results := [.lit (.bool false)], args := [d1, d2, d3, d4] }
  | _ => none }
def ManifestFindsWrongFalsely : Prop := manifestFindsRow.holds Tryz.pinned (OpenSpec.ofChange manifestFindsWrong)

/-- 'entrepotlaw13.ManifestRises': WHATEVER THE INPUT: true; the input reads as it did. -/
def manifestRisesSpec : ChangeSpec := { name := "manifestRises", fn := fun _ => fun
  | [d1, d2] => { results := [.lit (.bool true)], args := [d1, d2] }
  | _ => none }
def manifestRisesRow : OpenClaim := { program := "ytadfmenlpnibnaagreat", sum := "6c3d9dda0dd97cdf5fef7c637eb308383583798dc2251dbbbc196d534cec7f16", func := "entrepot/entrepotlaw13.ManifestRises", spec := "manifestRises", inPlace := ["internal/bytealg.IndexByteString", "internal/bytealg.IndexString", "slices.overlaps[entrepot/api.Mark]", "slices.overlaps[entrepot/api.Owner]"], unfollowed := true, recurses := true, named := ["internal/bytealg.MaxLen"], apart := false }
def ManifestRisesSaid : Prop := manifestRisesRow.holds Tryz.pinned (OpenSpec.ofChange manifestRisesSpec)

/-- ITS FALSE NEIGHBOUR: 'it returns false'. Refute it at one input. -/
def manifestRisesWrong : ChangeSpec := { name := "manifestRises", fn := fun _ => fun
  | [d1, d2] => { results := [.lit (.bool false)], args := [d1, d2] }
  | _ => none }
def ManifestRisesWrongFalsely : Prop := manifestRisesRow.holds Tryz.pinned (OpenSpec.ofChange manifestRisesWrong)

/-- 'entrepotlaw13.ManifestSwaps': WHATEVER THE INPUT: true; the input reads as it did. -/
def manifestSwapsSpec : ChangeSpec := { name := "manifestSwaps", fn := fun _ => fun
  | [d1, d2, d3] => { results := [.lit (.bool true)], args := [d1, d2, d3] }
  | _ => none }
def manifestSwapsRow : OpenClaim := { program := "ytadfmenlpnibnaagreat", sum := "6c3d9dda0dd97cdf5fef7c637eb308383583798dc2251dbbbc196d534cec7f16", func := "entrepot/entrepotlaw13.ManifestSwaps", spec := "manifestSwaps", inPlace := ["internal/bytealg.IndexByteString", "internal/bytealg.IndexString", "slices.overlaps[entrepot/api.Mark]", "slices.overlaps[entrepot/api.Owner]"], unfollowed := true, recurses := true, named := ["internal/bytealg.MaxLen"], apart := false }
def ManifestSwapsSaid : Prop := manifestSwapsRow.holds Tryz.pinned (OpenSpec.ofChange manifestSwapsSpec)

/-- ITS FALSE NEIGHBOUR: 'it returns false'. Refute it at one input. -/
def manifestSwapsWrong : ChangeSpec := { name := "manifestSwaps", fn := fun _ => fun
  | [d1, d2, d3] => { results := [.lit (.bool false)], args := [d1, d2, d3] }
  | _ => none }
def ManifestSwapsWrongFalsely : Prop := manifestSwapsRow.holds Tryz.pinned (OpenSpec.ofChange manifestSwapsWrong)

/- THE SECOND FORM. 'bulk': how many values and letters a reading holds, each counted each time it is reached (what is shared counts as often as it is met; a slice's spare places count too). A statement '..UptoSaid' is the law's where the arguments, and the package variables that the reading takes, are together of bulk at most 1048576: NARROWER than '..Said'. Prove '..Said' where nothing that the law and all that it calls make is longer than what came in: it says more and counts as full. Else prove '..UptoSaid'. A law counts once. -/
mutual
def uptoBulk {H : Type} : DataW H → Nat
  | .lit (.string bytes) => bytes.length + 1
  | .lit _ => 1
  | .nil => 1
  | .ptr d => uptoBulk d + 1
  | .slice elems spare => uptoBulkAll elems + uptoBulkAll spare + 1
  | .agg parts => uptoBulkAll parts + 1
  | .iface _ d => uptoBulk d + 1
  | .map entries => uptoBulkEntries entries + 1
  | .held _ => 1
def uptoBulkAll {H : Type} : List (DataW H) → Nat
  | [] => 0
  | d :: r => uptoBulk d + uptoBulkAll r
def uptoBulkEntries {H : Type} : List (Lit × DataW H) → Nat
  | [] => 0
  | x :: r => uptoBulkEntry x + uptoBulkEntries r
def uptoBulkEntry {H : Type} : Lit × DataW H → Nat
  | (.string bytes, d) => bytes.length + uptoBulk d + 1
  | (_, d) => uptoBulk d + 1
 end
def uptoSmall : (H : Type) → List (DataW H) → Bool := fun _ ds => decide (uptoBulkAll ds ≤ 1048576)
def OpenSpec.upto (s : _root_.Go.ChangeSpec) : _root_.Go.OpenSpec := { _root_.Go.OpenSpec.ofChange s with cond := some uptoSmall }

/-- 'entrepotlaw13.ManifestApplies', WHERE WHAT IT READS IS OF BULK AT MOST 1048576: true; the input reads as it did. -/
def manifestAppliesUptoRow : OpenClaim := { program := "ytadfmenlpnibnaagreat", sum := "6c3d9dda0dd97cdf5fef7c637eb308383583798dc2251dbbbc196d534cec7f16", func := "entrepot/entrepotlaw13.ManifestApplies", spec := "manifestApplies", inPlace := ["internal/bytealg.IndexByteString", "internal/bytealg.IndexString", "slices.overlaps[entrepot/api.Mark]", "slices.overlaps[entrepot/api.Owner]"], unfollowed := true, recurses := true, named := ["internal/bytealg.MaxLen"], apart := false, narrowed := true }
def ManifestAppliesUptoSaid : Prop := manifestAppliesUptoRow.holds Tryz.pinned (OpenSpec.upto manifestAppliesSpec)

/-- 'entrepotlaw13.ManifestFinds', WHERE WHAT IT READS IS OF BULK AT MOST 1048576: true; the input reads as it did. -/
def manifestFindsUptoRow : OpenClaim := { program := "ytadfmenlpnibnaagreat", sum := "6c3d9dda0dd97cdf5fef7c637eb308383583798dc2251dbbbc196d534cec7f16", func := "entrepot/entrepotlaw13.ManifestFinds", spec := "manifestFinds", inPlace := ["internal/bytealg.IndexByteString", "internal/bytealg.IndexString", "slices.overlaps[entrepot/api.Mark]", "slices.overlaps[entrepot/api.Owner]"], unfollowed := true, recurses := true, named := ["internal/bytealg.MaxLen"], apart := false, narrowed := true }
def ManifestFindsUptoSaid : Prop := manifestFindsUptoRow.holds Tryz.pinned (OpenSpec.upto manifestFindsSpec)

/-- 'entrepotlaw13.ManifestRises', WHERE WHAT IT READS IS OF BULK AT MOST 1048576: true; the input reads as it did. -/
def manifestRisesUptoRow : OpenClaim := { program := "ytadfmenlpnibnaagreat", sum := "6c3d9dda0dd97cdf5fef7c637eb308383583798dc2251dbbbc196d534cec7f16", func := "entrepot/entrepotlaw13.ManifestRises", spec := "manifestRises", inPlace := ["internal/bytealg.IndexByteString", "internal/bytealg.IndexString", "slices.overlaps[entrepot/api.Mark]", "slices.overlaps[entrepot/api.Owner]"], unfollowed := true, recurses := true, named := ["internal/bytealg.MaxLen"], apart := false, narrowed := true }
def ManifestRisesUptoSaid : Prop := manifestRisesUptoRow.holds Tryz.pinned (OpenSpec.upto manifestRisesSpec)

/-- 'entrepotlaw13.ManifestSwaps', WHERE WHAT IT READS IS OF BULK AT MOST 1048576: true; the input reads as it did. -/
def manifestSwapsUptoRow : OpenClaim := { program := "ytadfmenlpnibnaagreat", sum := "6c3d9dda0dd97cdf5fef7c637eb308383583798dc2251dbbbc196d534cec7f16", func := "entrepot/entrepotlaw13.ManifestSwaps", spec := "manifestSwaps", inPlace := ["internal/bytealg.IndexByteString", "internal/bytealg.IndexString", "slices.overlaps[entrepot/api.Mark]", "slices.overlaps[entrepot/api.Owner]"], unfollowed := true, recurses := true, named := ["internal/bytealg.MaxLen"], apart := false, narrowed := true }
def ManifestSwapsUptoSaid : Prop := manifestSwapsUptoRow.holds Tryz.pinned (OpenSpec.upto manifestSwapsSpec)

end Rows
end Go.Proofs.YtadfmenlpnibnaaGreat
