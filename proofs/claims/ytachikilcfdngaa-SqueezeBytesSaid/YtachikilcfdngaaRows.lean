/-
  No cell of these rows narrows 'for every input' (looked for: loops, veiled, ifaces, maps, wideKeys, modest, calm, conditions, laid).
  DERIVED. THE GIVEN ROWS OF THIS SEAT. 4 by the template 'for every input the law returns true; each argument reads behind the call as it read before'; 0 by the template 'total and deterministic' (their statements: YtachikilcfdngaaTotals.lean).
  GIVEN WITH THE SEED: the statements are not yours to turn. If you find one false, say at which input.
  Laid BY PROGRAM, IN A SANDBOX (cutbox-rows.mjs): the forced cells as the released guide's own fill.sh prints them over the translation 834b106e62488269… (all of the seat's roots in one cut). By AI agents, Wed Nov 11 2026. No macro, syntax, notation, axiom, sorry.
-/
import Derived.Test.YtachikilcfdngaaChecked
import GoSem.Claim
import GoSem.ClaimJoined
import GoSem.ClaimMapViews
import Derived.JoinedTies
import Derived.KernelRfl
namespace Go.Proofs.Ytachikilcfdngaa
/- THE CELL 'sum', in the pinned program and in every row, IS THE sha256 OF THE DUMP (.gsa) THAT YtachikilcfdngaaProg.lean LOADS. Nothing in Lean hashes anything: it is a label: what it is worth is what the hold of that sum in a sandbox is worth. -/
noncomputable def Try.pinned : Pinned := { name := "ytachikilcfdngaa", sum := "834b106e624882692fafd9805ad3f91f52e31c83fb8f4d251e1e32554d789f50", checked := Try.checked }
namespace Rows
def none {H : Type} : Left H := { results := [], args := [] }

/-- 'entrepotlaw02.BitsReads': WHATEVER THE INPUT: true; the input reads as it did. -/
def bitsReadsSpec : ChangeSpec := { name := "bitsReads", fn := fun _ => fun
  | [d1, d2] => { results := [.lit (.bool true)], args := [d1, d2] }
  | _ => none }
def bitsReadsRow : OpenClaim := { program := "ytachikilcfdngaa", sum := "834b106e624882692fafd9805ad3f91f52e31c83fb8f4d251e1e32554d789f50", func := "entrepot/entrepotlaw02.BitsReads", spec := "bitsReads", plainKeys := false, apart := false }
def BitsReadsSaid : Prop := bitsReadsRow.holds Try.pinned (OpenSpec.ofChange bitsReadsSpec)

/-- ITS FALSE NEIGHBOUR: 'it returns false'. Refute it at one input. -/
def bitsReadsWrong : ChangeSpec := { name := "bitsReads", fn := fun _ => fun
  | [d1, d2] => { results := [.lit (.bool false)], args := [d1, d2] }
  | _ => none }
def BitsReadsWrongFalsely : Prop := bitsReadsRow.holds Try.pinned (OpenSpec.ofChange bitsReadsWrong)

/-- 'entrepotlaw02.BitsWrites': WHATEVER THE INPUT: true; the input reads as it did. -/
def bitsWritesSpec : ChangeSpec := { name := "bitsWrites", fn := fun _ => fun
  | [d] => { results := [.lit (.bool true)], args := [d] }
  | _ => none }
def bitsWritesRow : OpenClaim := { program := "ytachikilcfdngaa", sum := "834b106e624882692fafd9805ad3f91f52e31c83fb8f4d251e1e32554d789f50", func := "entrepot/entrepotlaw02.BitsWrites", spec := "bitsWrites", plainKeys := false, apart := false }
def BitsWritesSaid : Prop := bitsWritesRow.holds Try.pinned (OpenSpec.ofChange bitsWritesSpec)

/-- ITS FALSE NEIGHBOUR: 'it returns false'. Refute it at one input. -/
def bitsWritesWrong : ChangeSpec := { name := "bitsWrites", fn := fun _ => fun
  | [d] => { results := [.lit (.bool false)], args := [d] }
  | _ => none }
def BitsWritesWrongFalsely : Prop := bitsWritesRow.holds Try.pinned (OpenSpec.ofChange bitsWritesWrong)

/-- 'entrepotlaw05.PrefixMakes': WHATEVER THE INPUT: true; the input reads as it did. -/
def prefixMakesSpec : ChangeSpec := { name := "prefixMakes", fn := fun _ => fun
  | [d1, d2] => { results := [.lit (.bool true)], args := [d1, d2] }
  | _ => none }
def prefixMakesRow : OpenClaim := { program := "ytachikilcfdngaa", sum := "834b106e624882692fafd9805ad3f91f52e31c83fb8f4d251e1e32554d789f50", func := "entrepot/entrepotlaw05.PrefixMakes", spec := "prefixMakes", plainKeys := false, apart := false }
def PrefixMakesSaid : Prop := prefixMakesRow.holds Try.pinned (OpenSpec.ofChange prefixMakesSpec)

/-- ITS FALSE NEIGHBOUR: 'it returns false'. Refute it at one input. -/
def prefixMakesWrong : ChangeSpec := { name := "prefixMakes", fn := fun _ => fun
  | [d1, d2] => { results := [.lit (.bool false)], args := [d1, d2] }
  | _ => none }
def PrefixMakesWrongFalsely : Prop := prefixMakesRow.holds Try.pinned (OpenSpec.ofChange prefixMakesWrong)

/-- 'entrepotlaw07.SqueezeBytes': WHATEVER THE INPUT: true; the input reads as it did. -/
def squeezeBytesSpec : ChangeSpec := { name := "squeezeBytes", fn := fun _ => fun
  | [d] => { results := [.lit (.bool true)], args := [d] }
  | _ => none }
def squeezeBytesRow : OpenClaim := { program := "ytachikilcfdngaa", sum := "834b106e624882692fafd9805ad3f91f52e31c83fb8f4d251e1e32554d789f50", func := "entrepot/entrepotlaw07.SqueezeBytes", spec := "squeezeBytes", plainKeys := false, apart := false }
def SqueezeBytesSaid : Prop := squeezeBytesRow.holds Try.pinned (OpenSpec.ofChange squeezeBytesSpec)

/-- ITS FALSE NEIGHBOUR: 'it returns false'. Refute it at one input. -/
def squeezeBytesWrong : ChangeSpec := { name := "squeezeBytes", fn := fun _ => fun
  | [d] => { results := [.lit (.bool false)], args := [d] }
  | _ => none }
def SqueezeBytesWrongFalsely : Prop := squeezeBytesRow.holds Try.pinned (OpenSpec.ofChange squeezeBytesWrong)

/- THE SECOND FORM. 'bulk': how many values and letters a reading holds, each counted each time it is reached (what is shared counts as often as it is met; a slice's spare places count too). A statement '..UptoSaid' is the law's where the arguments, and the package variables that the reading takes, are together of bulk at most 1048576: NARROWER than '..Said'. Prove '..Said' where nothing that the law and all that it calls make is longer than what came in: it says more and counts as full. Else prove '..UptoSaid'. A law counts once. -/
mutual
def uptoBulk {H : Type} : DataW H → Nat
  | .lit (.string bytes) => bytes.length + 1
  | .lit _ => 1
  | .nil => 1
  | .ptr d => uptoBulk d + 1
  | .slice elems spare => uptoBulkAll elems + uptoBulkAll spare + 1
  | .agg parts => uptoBulkAll parts + 1
  | .iface _ d => uptoBulk d + 1
  | .map entries => uptoBulkEntries entries + 1
  | .held _ => 1
def uptoBulkAll {H : Type} : List (DataW H) → Nat
  | [] => 0
  | d :: r => uptoBulk d + uptoBulkAll r
def uptoBulkEntries {H : Type} : List (Lit × DataW H) → Nat
  | [] => 0
  | x :: r => uptoBulkEntry x + uptoBulkEntries r
def uptoBulkEntry {H : Type} : Lit × DataW H → Nat
  | (.string bytes, d) => bytes.length + uptoBulk d + 1
  | (_, d) => uptoBulk d + 1
 end
def uptoSmall : (H : Type) → List (DataW H) → Bool := fun _ ds => decide (uptoBulkAll ds ≤ 1048576)
def OpenSpec.upto (s : _root_.Go.ChangeSpec) : _root_.Go.OpenSpec := { _root_.Go.OpenSpec.ofChange s with cond := some uptoSmall }

/-- 'entrepotlaw02.BitsReads', WHERE WHAT IT READS IS OF BULK AT MOST 1048576: true; the input reads as it did. -/
def bitsReadsUptoRow : OpenClaim := { program := "ytachikilcfdngaa", sum := "834b106e624882692fafd9805ad3f91f52e31c83fb8f4d251e1e32554d789f50", func := "entrepot/entrepotlaw02.BitsReads", spec := "bitsReads", plainKeys := false, apart := false, narrowed := true }
def BitsReadsUptoSaid : Prop := bitsReadsUptoRow.holds Try.pinned (OpenSpec.upto bitsReadsSpec)

/-- 'entrepotlaw02.BitsWrites', WHERE WHAT IT READS IS OF BULK AT MOST 1048576: true; the input reads as it did. -/
def bitsWritesUptoRow : OpenClaim := { program := "ytachikilcfdngaa", sum := "834b106e624882692fafd9805ad3f91f52e31c83fb8f4d251e1e32554d789f50", func := "entrepot/entrepotlaw02.BitsWrites", spec := "bitsWrites", plainKeys := false, apart := false, narrowed := true }
def BitsWritesUptoSaid : Prop := bitsWritesUptoRow.holds Try.pinned (OpenSpec.upto bitsWritesSpec)

/-- 'entrepotlaw05.PrefixMakes', WHERE WHAT IT READS IS OF BULK AT MOST 1048576: true; the input reads as it did. -/
def prefixMakesUptoRow : OpenClaim := { program := "ytachikilcfdngaa", sum := "834b106e624882692fafd9805ad3f91f52e31c83fb8f4d251e1e32554d789f50", func := "entrepot/entrepotlaw05.PrefixMakes", spec := "prefixMakes", plainKeys := false, apart := false, narrowed := true }
def PrefixMakesUptoSaid : Prop := prefixMakesUptoRow.holds Try.pinned (OpenSpec.upto prefixMakesSpec)

/-- 'entrepotlaw07.SqueezeBytes', WHERE WHAT IT READS IS OF BULK AT MOST 1048576: true; the input reads as it did. -/
def squeezeBytesUptoRow : OpenClaim := { program := "ytachikilcfdngaa", sum := "834b106e624882692fafd9805ad3f91f52e31c83fb8f4d251e1e32554d789f50", func := "entrepot/entrepotlaw07.SqueezeBytes", spec := "squeezeBytes", plainKeys := false, apart := false, narrowed := true }
def SqueezeBytesUptoSaid : Prop := squeezeBytesUptoRow.holds Try.pinned (OpenSpec.upto squeezeBytesSpec)

end Rows
end Go.Proofs.Ytachikilcfdngaa
