/-
  No cell of these rows narrows 'for every input' (looked for: loops, veiled, ifaces, maps, wideKeys, modest, calm, conditions, laid).
  DERIVED. THE GIVEN ROWS OF THIS SEAT. 4 by the template 'for every input the law returns true; each argument reads behind the call as it read before'; 0 by the template 'total and deterministic' (their statements: YtpcohkhdbjimgaaTotals.lean).
  GIVEN WITH THE SEED: the statements are not yours to turn. If you find one false, say at which input.
  Laid BY PROGRAM, IN A SANDBOX (cutbox-rows.mjs): the forced cells as the released guide's own fill.sh prints them over the translation 1b8bc369e5c31f63… (all of the seat's roots in one cut). By AI agents, Wed Nov 11 2026. No macro, syntax, notation, axiom, sorry.
-/
import Derived.Test.YtpcohkhdbjimgaaChecked
import GoSem.Claim
import GoSem.ClaimJoined
import GoSem.ClaimMapViews
import Derived.JoinedTies
import Derived.KernelRfl
namespace Go.Proofs.Ytpcohkhdbjimgaa
/- THE CELL 'sum', in the pinned program and in every row, IS THE sha256 OF THE DUMP (.gsa) THAT YtpcohkhdbjimgaaProg.lean LOADS. Nothing in Lean hashes anything: it is a label: what it is worth is what the hold of that sum in a sandbox is worth. -/
noncomputable def Try.pinned : Pinned := { name := "ytpcohkhdbjimgaa", sum := "1b8bc369e5c31f63317c35056b010ec29edcc93b91b000aa153ac6865cc8e04f", checked := Try.checked }
namespace Rows
def none {H : Type} : Left H := { results := [], args := [] }

/-- 'entrepotlaw15.BayBoxes': WHATEVER THE INPUT: true; the input reads as it did. -/
def bayBoxesSpec : ChangeSpec := { name := "bayBoxes", fn := fun _ => fun
  | [d1, d2] => { results := [.lit (.bool true)], args := [d1, d2] }
  | _ => none }
def bayBoxesRow : OpenClaim := { program := "ytpcohkhdbjimgaa", sum := "1b8bc369e5c31f63317c35056b010ec29edcc93b91b000aa153ac6865cc8e04f", func := "entrepot/entrepotlaw15.BayBoxes", spec := "bayBoxes", apart := false }
def BayBoxesSaid : Prop := bayBoxesRow.holds Try.pinned (OpenSpec.ofChange bayBoxesSpec)

/-- ITS FALSE NEIGHBOUR: 'it returns false'. Refute it at one input. -/
def bayBoxesWrong : ChangeSpec := { name := "bayBoxes", fn := fun _ => fun
  | [d1, d2] => { results := [.lit (.bool false)], args := [d1, d2] }
  | _ => none }
def BayBoxesWrongFalsely : Prop := bayBoxesRow.holds Try.pinned (OpenSpec.ofChange bayBoxesWrong)

/-- 'entrepotlaw15.BayEither': WHATEVER THE INPUT: true; the input reads as it did. -/
def bayEitherSpec : ChangeSpec := { name := "bayEither", fn := fun _ => fun
  | [d1, d2, d3] => { results := [.lit (.bool true)], args := [d1, d2, d3] }
  | _ => none }
def bayEitherRow : OpenClaim := { program := "ytpcohkhdbjimgaa", sum := "1b8bc369e5c31f63317c35056b010ec29edcc93b91b000aa153ac6865cc8e04f", func := "entrepot/entrepotlaw15.BayEither", spec := "bayEither", apart := false }
def BayEitherSaid : Prop := bayEitherRow.holds Try.pinned (OpenSpec.ofChange bayEitherSpec)

/-- ITS FALSE NEIGHBOUR: 'it returns false'. Refute it at one input. -/
def bayEitherWrong : ChangeSpec := { name := "bayEither", fn := fun _ => fun
  | [d1, d2, d3] => { results := [.lit (.bool false)], args := [d1, d2, d3] }
  | _ => none }
def BayEitherWrongFalsely : Prop := bayEitherRow.holds Try.pinned (OpenSpec.ofChange bayEitherWrong)

/-- 'entrepotlaw15.BayPlays': WHATEVER THE INPUT: true; the input reads as it did. -/
def bayPlaysSpec : ChangeSpec := { name := "bayPlays", fn := fun _ => fun
  | [d1, d2] => { results := [.lit (.bool true)], args := [d1, d2] }
  | _ => none }
def bayPlaysRow : OpenClaim := { program := "ytpcohkhdbjimgaa", sum := "1b8bc369e5c31f63317c35056b010ec29edcc93b91b000aa153ac6865cc8e04f", func := "entrepot/entrepotlaw15.BayPlays", spec := "bayPlays", unfollowed := true, recurses := true, apart := false }
def BayPlaysSaid : Prop := bayPlaysRow.holds Try.pinned (OpenSpec.ofChange bayPlaysSpec)

/-- ITS FALSE NEIGHBOUR: 'it returns false'. Refute it at one input. -/
def bayPlaysWrong : ChangeSpec := { name := "bayPlays", fn := fun _ => fun
  | [d1, d2] => { results := [.lit (.bool false)], args := [d1, d2] }
  | _ => none }
def BayPlaysWrongFalsely : Prop := bayPlaysRow.holds Try.pinned (OpenSpec.ofChange bayPlaysWrong)

/-- 'entrepotlaw15.BayHolds': WHATEVER THE INPUT: true; the input reads as it did. -/
def bayHoldsSpec : ChangeSpec := { name := "bayHolds", fn := fun _ => fun
  | [d1, d2] => { results := [.lit (.bool true)], args := [d1, d2] }
  | _ => none }
def bayHoldsRow : OpenClaim := { program := "ytpcohkhdbjimgaa", sum := "1b8bc369e5c31f63317c35056b010ec29edcc93b91b000aa153ac6865cc8e04f", func := "entrepot/entrepotlaw15.BayHolds", spec := "bayHolds", unfollowed := true, recurses := true, apart := false }
def BayHoldsSaid : Prop := bayHoldsRow.holds Try.pinned (OpenSpec.ofChange bayHoldsSpec)

/-- ITS FALSE NEIGHBOUR: 'it returns false'. Refute it at one input. -/
def bayHoldsWrong : ChangeSpec := { name := "bayHolds", fn := fun _ => fun
  | [d1, d2] => { results := [.lit (.bool false)], args := [d1, d2] }
  | _ => none }
def BayHoldsWrongFalsely : Prop := bayHoldsRow.holds Try.pinned (OpenSpec.ofChange bayHoldsWrong)

/- THE SECOND FORM. 'bulk': how many values and letters a reading holds, each counted each time it is reached (what is shared counts as often as it is met; a slice's spare places count too). A statement '..UptoSaid' is the law's where the arguments, and the package variables that the reading takes, are together of bulk at most 1048576: NARROWER than '..Said'. Prove '..Said' where nothing that the law and all that it calls make is longer than what came in: it says more and counts as full. Else prove '..UptoSaid'. A law counts once. -/
mutual
def uptoBulk {H : Type} : DataW H → Nat
  | .lit (.string bytes) => bytes.length + 1
  | .lit _ => 1
  | .nil => 1
  | .ptr d => uptoBulk d + 1
  | .slice elems spare => uptoBulkAll elems + uptoBulkAll spare + 1
  | .agg parts => uptoBulkAll parts + 1
  | .iface _ d => uptoBulk d + 1
  | .map entries => uptoBulkEntries entries + 1
  | .held _ => 1
def uptoBulkAll {H : Type} : List (DataW H) → Nat
  | [] => 0
  | d :: r => uptoBulk d + uptoBulkAll r
def uptoBulkEntries {H : Type} : List (Lit × DataW H) → Nat
  | [] => 0
  | x :: r => uptoBulkEntry x + uptoBulkEntries r
def uptoBulkEntry {H : Type} : Lit × DataW H → Nat
  | (.string bytes, d) => bytes.length + uptoBulk d + 1
  | (_, d) => uptoBulk d + 1
 end
def uptoSmall : (H : Type) → List (DataW H) → Bool := fun _ ds => decide (uptoBulkAll ds ≤ 1048576)
def OpenSpec.upto (s : _root_.Go.ChangeSpec) : _root_.Go.OpenSpec := { _root_.Go.OpenSpec.ofChange s with cond := some uptoSmall }

/-- 'entrepotlaw15.BayBoxes', WHERE WHAT IT READS IS OF BULK AT MOST 1048576: true; the input reads as it did. -/
def bayBoxesUptoRow : OpenClaim := { program := "ytpcohkhdbjimgaa", sum := "1b8bc369e5c31f63317c35056b010ec29edcc93b91b000aa153ac6865cc8e04f", func := "entrepot/entrepotlaw15.BayBoxes", spec := "bayBoxes", apart := false, narrowed := true }
def BayBoxesUptoSaid : Prop := bayBoxesUptoRow.holds Try.pinned (OpenSpec.upto bayBoxesSpec)

/-- 'entrepotlaw15.BayEither', WHERE WHAT IT READS IS OF BULK AT MOST 1048576: true; the input reads as it did. -/
def bayEitherUptoRow : OpenClaim := { program := "ytpcohkhdbjimgaa", sum := "1b8bc369e5c31f63317c35056b010ec29edcc93b91b000aa153ac6865cc8e04f", func := "entrepot/entrepotlaw15.BayEither", spec := "bayEither", apart := false, narrowed := true }
def BayEitherUptoSaid : Prop := bayEitherUptoRow.holds Try.pinned (OpenSpec.upto bayEitherSpec)

/-- 'entrepotlaw15.BayPlays', WHERE WHAT IT READS IS OF BULK AT MOST 1048576: true; the input reads as it did. -/
def bayPlaysUptoRow : OpenClaim := { program := "ytpcohkhdbjimgaa", sum := "1b8bc369e5c31f63317c35056b010ec29edcc93b91b000aa153ac6865cc8e04f", func := "entrepot/entrepotlaw15.BayPlays", spec := "bayPlays", unfollowed := true, recurses := true, apart := false, narrowed := true }
def BayPlaysUptoSaid : Prop := bayPlaysUptoRow.holds Try.pinned (OpenSpec.upto bayPlaysSpec)

/-- 'entrepotlaw15.BayHolds', WHERE WHAT IT READS IS OF BULK AT MOST 1048576: true; the input reads as it did. -/
def bayHoldsUptoRow : OpenClaim := { program := "ytpcohkhdbjimgaa", sum := "1b8bc369e5c31f63317c35056b010ec29edcc93b91b000aa153ac6865cc8e04f", func := "entrepot/entrepotlaw15.BayHolds", spec := "bayHolds", unfollowed := true, recurses := true, apart := false, narrowed := true }
def BayHoldsUptoSaid : Prop := bayHoldsUptoRow.holds Try.pinned (OpenSpec.upto bayHoldsSpec)

end Rows
end Go.Proofs.Ytpcohkhdbjimgaa
