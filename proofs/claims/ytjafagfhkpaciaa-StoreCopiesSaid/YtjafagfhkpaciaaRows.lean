/-
  No cell of these rows narrows 'for every input' (looked for: loops, veiled, ifaces, maps, wideKeys, modest, calm, conditions, laid).
  DERIVED. THE GIVEN ROWS OF THIS SEAT. 6 by the template 'for every input the law returns true; each argument reads behind the call as it read before'; 0 by the template 'total and deterministic' (their statements: YtjafagfhkpaciaaTotals.lean).
  GIVEN WITH THE SEED: the statements are not yours to turn. If you find one false, say at which input.
  Laid BY PROGRAM, IN A SANDBOX (cutbox-rows.mjs): the forced cells as the released guide's own fill.sh prints them over the translation a11e8bcd62904114… (all of the seat's roots in one cut). By AI agents, Wed Nov 11 2026. No macro, syntax, notation, axiom, sorry.
-/
import Derived.Test.YtjafagfhkpaciaaChecked
import GoSem.Claim
import GoSem.ClaimJoined
import GoSem.ClaimMapViews
import Derived.JoinedTies
import Derived.KernelRfl
namespace Go.Proofs.Ytjafagfhkpaciaa
/- THE CELL 'sum', in the pinned program and in every row, IS THE sha256 OF THE DUMP (.gsa) THAT YtjafagfhkpaciaaProg.lean LOADS. Nothing in Lean hashes anything: it is a label: what it is worth is what the hold of that sum in a sandbox is worth. -/
noncomputable def Try.pinned : Pinned := { name := "ytjafagfhkpaciaa", sum := "a11e8bcd62904114c130f25c43b11def942ce7b03c548a67561a59b95f7cc5f8", checked := Try.checked }
namespace Rows
def none {H : Type} : Left H := { results := [], args := [] }

/-- 'entrepotlaw14.StoreCopies': WHATEVER THE INPUT: true; the input reads as it did. -/
def storeCopiesSpec : ChangeSpec := { name := "storeCopies", fn := fun _ => fun
  | [d1, d2] => { results := [.lit (.bool true)], args := [d1, d2] }
  | _ => none }
def storeCopiesRow : OpenClaim := { program := "ytjafagfhkpaciaa", sum := "a11e8bcd62904114c130f25c43b11def942ce7b03c548a67561a59b95f7cc5f8", func := "entrepot/entrepotlaw14.StoreCopies", spec := "storeCopies", inPlace := ["internal/abi.NoEscape", "maps.clone"], unfollowed := true, recurses := true, apart := false }
def StoreCopiesSaid : Prop := storeCopiesRow.holds Try.pinned (OpenSpec.ofChange storeCopiesSpec)

/-- ITS FALSE NEIGHBOUR: 'it returns false'. Refute it at one input. -/
def storeCopiesWrong : ChangeSpec := { name := "storeCopies", fn := fun _ => fun
  | [d1, d2] => { results := [.lit (.bool false)], args := [d1, d2] }
  | _ => none }
def StoreCopiesWrongFalsely : Prop := storeCopiesRow.holds Try.pinned (OpenSpec.ofChange storeCopiesWrong)

/-- 'entrepotlaw14.StoreStays': WHATEVER THE INPUT: true; the input reads as it did. -/
def storeStaysSpec : ChangeSpec := { name := "storeStays", fn := fun _ => fun
  | [d1, d2] => { results := [.lit (.bool true)], args := [d1, d2] }
  | _ => none }
def storeStaysRow : OpenClaim := { program := "ytjafagfhkpaciaa", sum := "a11e8bcd62904114c130f25c43b11def942ce7b03c548a67561a59b95f7cc5f8", func := "entrepot/entrepotlaw14.StoreStays", spec := "storeStays", inPlace := ["internal/abi.NoEscape"], unfollowed := true, recurses := true, apart := false }
def StoreStaysSaid : Prop := storeStaysRow.holds Try.pinned (OpenSpec.ofChange storeStaysSpec)

/-- ITS FALSE NEIGHBOUR: 'it returns false'. Refute it at one input. -/
def storeStaysWrong : ChangeSpec := { name := "storeStays", fn := fun _ => fun
  | [d1, d2] => { results := [.lit (.bool false)], args := [d1, d2] }
  | _ => none }
def StoreStaysWrongFalsely : Prop := storeStaysRow.holds Try.pinned (OpenSpec.ofChange storeStaysWrong)

/-- 'entrepotlaw14.StoreOnce': WHATEVER THE INPUT: true; the input reads as it did. -/
def storeOnceSpec : ChangeSpec := { name := "storeOnce", fn := fun _ => fun
  | [d1, d2] => { results := [.lit (.bool true)], args := [d1, d2] }
  | _ => none }
def storeOnceRow : OpenClaim := { program := "ytjafagfhkpaciaa", sum := "a11e8bcd62904114c130f25c43b11def942ce7b03c548a67561a59b95f7cc5f8", func := "entrepot/entrepotlaw14.StoreOnce", spec := "storeOnce", inPlace := ["internal/abi.NoEscape"], unfollowed := true, recurses := true, apart := false }
def StoreOnceSaid : Prop := storeOnceRow.holds Try.pinned (OpenSpec.ofChange storeOnceSpec)

/-- ITS FALSE NEIGHBOUR: 'it returns false'. Refute it at one input. -/
def storeOnceWrong : ChangeSpec := { name := "storeOnce", fn := fun _ => fun
  | [d1, d2] => { results := [.lit (.bool false)], args := [d1, d2] }
  | _ => none }
def StoreOnceWrongFalsely : Prop := storeOnceRow.holds Try.pinned (OpenSpec.ofChange storeOnceWrong)

/-- 'entrepotlaw14.StorePages': WHATEVER THE INPUT: true; the input reads as it did. -/
def storePagesSpec : ChangeSpec := { name := "storePages", fn := fun _ => fun
  | [d1, d2] => { results := [.lit (.bool true)], args := [d1, d2] }
  | _ => none }
def storePagesRow : OpenClaim := { program := "ytjafagfhkpaciaa", sum := "a11e8bcd62904114c130f25c43b11def942ce7b03c548a67561a59b95f7cc5f8", func := "entrepot/entrepotlaw14.StorePages", spec := "storePages", inPlace := ["internal/abi.NoEscape"], unfollowed := true, recurses := true, apart := false }
def StorePagesSaid : Prop := storePagesRow.holds Try.pinned (OpenSpec.ofChange storePagesSpec)

/-- ITS FALSE NEIGHBOUR: 'it returns false'. Refute it at one input. -/
def storePagesWrong : ChangeSpec := { name := "storePages", fn := fun _ => fun
  | [d1, d2] => { results := [.lit (.bool false)], args := [d1, d2] }
  | _ => none }
def StorePagesWrongFalsely : Prop := storePagesRow.holds Try.pinned (OpenSpec.ofChange storePagesWrong)

/-- 'entrepotlaw14.StoreUploads': WHATEVER THE INPUT: true; the input reads as it did. -/
def storeUploadsSpec : ChangeSpec := { name := "storeUploads", fn := fun _ => fun
  | [d1, d2, d3] => { results := [.lit (.bool true)], args := [d1, d2, d3] }
  | _ => none }
def storeUploadsRow : OpenClaim := { program := "ytjafagfhkpaciaa", sum := "a11e8bcd62904114c130f25c43b11def942ce7b03c548a67561a59b95f7cc5f8", func := "entrepot/entrepotlaw14.StoreUploads", spec := "storeUploads", inPlace := ["internal/abi.NoEscape"], unfollowed := true, recurses := true, apart := false }
def StoreUploadsSaid : Prop := storeUploadsRow.holds Try.pinned (OpenSpec.ofChange storeUploadsSpec)

/-- ITS FALSE NEIGHBOUR: 'it returns false'. Refute it at one input. -/
def storeUploadsWrong : ChangeSpec := { name := "storeUploads", fn := fun _ => fun
  | [d1, d2, d3] => { results := [.lit (.bool false)], args := [d1, d2, d3] }
  | _ => none }
def StoreUploadsWrongFalsely : Prop := storeUploadsRow.holds Try.pinned (OpenSpec.ofChange storeUploadsWrong)

/-- 'entrepotlaw14.StoreBorn': WHATEVER THE INPUT: true; the input reads as it did. -/
def storeBornSpec : ChangeSpec := { name := "storeBorn", fn := fun _ => fun
  | [d] => { results := [.lit (.bool true)], args := [d] }
  | _ => none }
def storeBornRow : OpenClaim := { program := "ytjafagfhkpaciaa", sum := "a11e8bcd62904114c130f25c43b11def942ce7b03c548a67561a59b95f7cc5f8", func := "entrepot/entrepotlaw14.StoreBorn", spec := "storeBorn", inPlace := ["internal/abi.NoEscape"], unfollowed := true, recurses := true, apart := false }
def StoreBornSaid : Prop := storeBornRow.holds Try.pinned (OpenSpec.ofChange storeBornSpec)

/-- ITS FALSE NEIGHBOUR: 'it returns false'. Refute it at one input. -/
def storeBornWrong : ChangeSpec := { name := "storeBorn", fn := fun _ => fun
  | [d] => { results := [.lit (.bool false)], args := [d] }
  | _ => none }
def StoreBornWrongFalsely : Prop := storeBornRow.holds Try.pinned (OpenSpec.ofChange storeBornWrong)

/- THE SECOND FORM. 'bulk': how many values and letters a reading holds, each counted each time it is reached (what is shared counts as often as it is met; a slice's spare places count too). A statement '..UptoSaid' is the law's where the arguments, and the package variables that the reading takes, are together of bulk at most 1048576: NARROWER than '..Said'. Prove '..Said' where nothing that the law and all that it calls make is longer than what came in: it says more and counts as full. Else prove '..UptoSaid'. A law counts once. -/
mutual
def uptoBulk {H : Type} : DataW H → Nat
  | .lit (.string bytes) => bytes.length + 1
  | .lit _ => 1
  | .nil => 1
  | .ptr d => uptoBulk d + 1
  | .slice elems spare => uptoBulkAll elems + uptoBulkAll spare + 1
  | .agg parts => uptoBulkAll parts + 1
  | .iface _ d => uptoBulk d + 1
  | .map entries => uptoBulkEntries entries + 1
  | .held _ => 1
def uptoBulkAll {H : Type} : List (DataW H) → Nat
  | [] => 0
  | d :: r => uptoBulk d + uptoBulkAll r
def uptoBulkEntries {H : Type} : List (Lit × DataW H) → Nat
  | [] => 0
  | x :: r => uptoBulkEntry x + uptoBulkEntries r
def uptoBulkEntry {H : Type} : Lit × DataW H → Nat
  | (.string bytes, d) => bytes.length + uptoBulk d + 1
  | (_, d) => uptoBulk d + 1
 end
def uptoSmall : (H : Type) → List (DataW H) → Bool := fun _ ds => decide (uptoBulkAll ds ≤ 1048576)
def OpenSpec.upto (s : _root_.Go.ChangeSpec) : _root_.Go.OpenSpec := { _root_.Go.OpenSpec.ofChange s with cond := some uptoSmall }

/-- 'entrepotlaw14.StoreCopies', WHERE WHAT IT READS IS OF BULK AT MOST 1048576: true; the input reads as it did. -/
def storeCopiesUptoRow : OpenClaim := { program := "ytjafagfhkpaciaa", sum := "a11e8bcd62904114c130f25c43b11def942ce7b03c548a67561a59b95f7cc5f8", func := "entrepot/entrepotlaw14.StoreCopies", spec := "storeCopies", inPlace := ["internal/abi.NoEscape", "maps.clone"], unfollowed := true, recurses := true, apart := false, narrowed := true }
def StoreCopiesUptoSaid : Prop := storeCopiesUptoRow.holds Try.pinned (OpenSpec.upto storeCopiesSpec)

/-- 'entrepotlaw14.StoreStays', WHERE WHAT IT READS IS OF BULK AT MOST 1048576: true; the input reads as it did. -/
def storeStaysUptoRow : OpenClaim := { program := "ytjafagfhkpaciaa", sum := "a11e8bcd62904114c130f25c43b11def942ce7b03c548a67561a59b95f7cc5f8", func := "entrepot/entrepotlaw14.StoreStays", spec := "storeStays", inPlace := ["internal/abi.NoEscape"], unfollowed := true, recurses := true, apart := false, narrowed := true }
def StoreStaysUptoSaid : Prop := storeStaysUptoRow.holds Try.pinned (OpenSpec.upto storeStaysSpec)

/-- 'entrepotlaw14.StoreOnce', WHERE WHAT IT READS IS OF BULK AT MOST 1048576: true; the input reads as it did. -/
def storeOnceUptoRow : OpenClaim := { program := "ytjafagfhkpaciaa", sum := "a11e8bcd62904114c130f25c43b11def942ce7b03c548a67561a59b95f7cc5f8", func := "entrepot/entrepotlaw14.StoreOnce", spec := "storeOnce", inPlace := ["internal/abi.NoEscape"], unfollowed := true, recurses := true, apart := false, narrowed := true }
def StoreOnceUptoSaid : Prop := storeOnceUptoRow.holds Try.pinned (OpenSpec.upto storeOnceSpec)

/-- 'entrepotlaw14.StorePages', WHERE WHAT IT READS IS OF BULK AT MOST 1048576: true; the input reads as it did. -/
def storePagesUptoRow : OpenClaim := { program := "ytjafagfhkpaciaa", sum := "a11e8bcd62904114c130f25c43b11def942ce7b03c548a67561a59b95f7cc5f8", func := "entrepot/entrepotlaw14.StorePages", spec := "storePages", inPlace := ["internal/abi.NoEscape"], unfollowed := true, recurses := true, apart := false, narrowed := true }
def StorePagesUptoSaid : Prop := storePagesUptoRow.holds Try.pinned (OpenSpec.upto storePagesSpec)

/-- 'entrepotlaw14.StoreUploads', WHERE WHAT IT READS IS OF BULK AT MOST 1048576: true; the input reads as it did. -/
def storeUploadsUptoRow : OpenClaim := { program := "ytjafagfhkpaciaa", sum := "a11e8bcd62904114c130f25c43b11def942ce7b03c548a67561a59b95f7cc5f8", func := "entrepot/entrepotlaw14.StoreUploads", spec := "storeUploads", inPlace := ["internal/abi.NoEscape"], unfollowed := true, recurses := true, apart := false, narrowed := true }
def StoreUploadsUptoSaid : Prop := storeUploadsUptoRow.holds Try.pinned (OpenSpec.upto storeUploadsSpec)

/-- 'entrepotlaw14.StoreBorn', WHERE WHAT IT READS IS OF BULK AT MOST 1048576: true; the input reads as it did. -/
def storeBornUptoRow : OpenClaim := { program := "ytjafagfhkpaciaa", sum := "a11e8bcd62904114c130f25c43b11def942ce7b03c548a67561a59b95f7cc5f8", func := "entrepot/entrepotlaw14.StoreBorn", spec := "storeBorn", inPlace := ["internal/abi.NoEscape"], unfollowed := true, recurses := true, apart := false, narrowed := true }
def StoreBornUptoSaid : Prop := storeBornUptoRow.holds Try.pinned (OpenSpec.upto storeBornSpec)

end Rows
end Go.Proofs.Ytjafagfhkpaciaa
