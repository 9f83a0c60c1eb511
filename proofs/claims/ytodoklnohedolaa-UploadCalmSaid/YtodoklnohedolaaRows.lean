/-
  No cell of these rows narrows 'for every input' (looked for: loops, veiled, ifaces, maps, wideKeys, modest, calm, conditions, laid).
  DERIVED. THE GIVEN ROWS OF THIS SEAT. 5 by the template 'for every input the law returns true; each argument reads behind the call as it read before'; 0 by the template 'total and deterministic' (their statements: YtodoklnohedolaaTotals.lean).
  GIVEN WITH THE SEED: the statements are not yours to turn. If you find one false, say at which input.
  Laid BY PROGRAM, IN A SANDBOX (cutbox-rows.mjs): the forced cells as the released guide's own fill.sh prints them over the translation 7c338f046ded7e3d… (all of the seat's roots in one cut). By AI agents, Wed Nov 11 2026. No macro, syntax, notation, axiom, sorry.
-/
import Derived.Test.YtodoklnohedolaaChecked
import GoSem.Claim
import GoSem.ClaimJoined
import GoSem.ClaimMapViews
import Derived.JoinedTies
import Derived.KernelRfl
namespace Go.Proofs.Ytodoklnohedolaa
/- THE CELL 'sum', in the pinned program and in every row, IS THE sha256 OF THE DUMP (.gsa) THAT YtodoklnohedolaaProg.lean LOADS. Nothing in Lean hashes anything: it is a label: what it is worth is what the hold of that sum in a sandbox is worth. -/
noncomputable def Try.pinned : Pinned := { name := "ytodoklnohedolaa", sum := "7c338f046ded7e3d5ae5c5279a6493c73a46cbb20752e8eda95d5a9f49772266", checked := Try.checked }
namespace Rows
def none {H : Type} : Left H := { results := [], args := [] }

/-- 'entrepotlaw14.StoreOnce': WHATEVER THE INPUT: true; the input reads as it did. -/
def storeOnceSpec : ChangeSpec := { name := "storeOnce", fn := fun _ => fun
  | [d1, d2] => { results := [.lit (.bool true)], args := [d1, d2] }
  | _ => none }
def storeOnceRow : OpenClaim := { program := "ytodoklnohedolaa", sum := "7c338f046ded7e3d5ae5c5279a6493c73a46cbb20752e8eda95d5a9f49772266", func := "entrepot/entrepotlaw14.StoreOnce", spec := "storeOnce", inPlace := ["internal/abi.NoEscape"], unfollowed := true, recurses := true, apart := false }
def StoreOnceSaid : Prop := storeOnceRow.holds Try.pinned (OpenSpec.ofChange storeOnceSpec)

/-- ITS FALSE NEIGHBOUR: 'it returns false'. Refute it at one input. -/
def storeOnceWrong : ChangeSpec := { name := "storeOnce", fn := fun _ => fun
  | [d1, d2] => { results := [.lit (.bool false)], args := [d1, d2] }
  | _ => none }
def StoreOnceWrongFalsely : Prop := storeOnceRow.holds Try.pinned (OpenSpec.ofChange storeOnceWrong)

/-- 'entrepotlaw17.UploadDone': WHATEVER THE INPUT: true; the input reads as it did. -/
def uploadDoneSpec : ChangeSpec := { name := "uploadDone", fn := fun _ => fun
  | [d1, d2] => { results := [.lit (.bool true)], args := [d1, d2] }
  | _ => none }
def uploadDoneRow : OpenClaim := { program := "ytodoklnohedolaa", sum := "7c338f046ded7e3d5ae5c5279a6493c73a46cbb20752e8eda95d5a9f49772266", func := "entrepot/entrepotlaw17.UploadDone", spec := "uploadDone", apart := false }
def UploadDoneSaid : Prop := uploadDoneRow.holds Try.pinned (OpenSpec.ofChange uploadDoneSpec)

/-- ITS FALSE NEIGHBOUR: 'it returns false'. Refute it at one input. -/
def uploadDoneWrong : ChangeSpec := { name := "uploadDone", fn := fun _ => fun
  | [d1, d2] => { results := [.lit (.bool false)], args := [d1, d2] }
  | _ => none }
def UploadDoneWrongFalsely : Prop := uploadDoneRow.holds Try.pinned (OpenSpec.ofChange uploadDoneWrong)

/-- 'entrepotlaw17.UploadCalm': WHATEVER THE INPUT: true; the input reads as it did. -/
def uploadCalmSpec : ChangeSpec := { name := "uploadCalm", fn := fun _ => fun
  | [d] => { results := [.lit (.bool true)], args := [d] }
  | _ => none }
def uploadCalmRow : OpenClaim := { program := "ytodoklnohedolaa", sum := "7c338f046ded7e3d5ae5c5279a6493c73a46cbb20752e8eda95d5a9f49772266", func := "entrepot/entrepotlaw17.UploadCalm", spec := "uploadCalm", apart := false }
def UploadCalmSaid : Prop := uploadCalmRow.holds Try.pinned (OpenSpec.ofChange uploadCalmSpec)

/-- ITS FALSE NEIGHBOUR: 'it returns false'. Refute it at one input. -/
def uploadCalmWrong : ChangeSpec := { name := "uploadCalm", fn := fun _ => fun
  | [d] => { results := [.lit (.bool false)], args := [d] }
  | _ => none }
def UploadCalmWrongFalsely : Prop := uploadCalmRow.holds Try.pinned (OpenSpec.ofChange uploadCalmWrong)

/-- 'entrepotlaw17.UploadGivesUp': WHATEVER THE INPUT: true; the input reads as it did. -/
def uploadGivesUpSpec : ChangeSpec := { name := "uploadGivesUp", fn := fun _ => fun
  | [d1, d2] => { results := [.lit (.bool true)], args := [d1, d2] }
  | _ => none }
def uploadGivesUpRow : OpenClaim := { program := "ytodoklnohedolaa", sum := "7c338f046ded7e3d5ae5c5279a6493c73a46cbb20752e8eda95d5a9f49772266", func := "entrepot/entrepotlaw17.UploadGivesUp", spec := "uploadGivesUp", apart := false }
def UploadGivesUpSaid : Prop := uploadGivesUpRow.holds Try.pinned (OpenSpec.ofChange uploadGivesUpSpec)

/-- ITS FALSE NEIGHBOUR: 'it returns false'. Refute it at one input. -/
def uploadGivesUpWrong : ChangeSpec := { name := "uploadGivesUp", fn := fun _ => fun
  | [d1, d2] => { results := [.lit (.bool false)], args := [d1, d2] }
  | _ => none }
def UploadGivesUpWrongFalsely : Prop := uploadGivesUpRow.holds Try.pinned (OpenSpec.ofChange uploadGivesUpWrong)

/-- 'entrepotlaw17.UploadPaces': WHATEVER THE INPUT: true; the input reads as it did. -/
def uploadPacesSpec : ChangeSpec := { name := "uploadPaces", fn := fun _ => fun
  | [d] => { results := [.lit (.bool true)], args := [d] }
  | _ => none }
def uploadPacesRow : OpenClaim := { program := "ytodoklnohedolaa", sum := "7c338f046ded7e3d5ae5c5279a6493c73a46cbb20752e8eda95d5a9f49772266", func := "entrepot/entrepotlaw17.UploadPaces", spec := "uploadPaces", apart := false }
def UploadPacesSaid : Prop := uploadPacesRow.holds Try.pinned (OpenSpec.ofChange uploadPacesSpec)

/-- ITS FALSE NEIGHBOUR: 'it returns false'. Refute it at one input. -/
def uploadPacesWrong : ChangeSpec := { name := "uploadPaces", fn := fun _ => fun
  | [d] => { results := [.lit (.bool false)], args := [d] }
  | _ => none }
def UploadPacesWrongFalsely : Prop := uploadPacesRow.holds Try.pinned (OpenSpec.ofChange uploadPacesWrong)

/- THE SECOND FORM. 'bulk': how many values and letters a reading holds, each counted each time it is reached (what is shared counts as often as it is met; a slice's spare places count too). A statement '..UptoSaid' is the law's where the arguments, and the package variables that the reading takes, are together of bulk at most 1048576: NARROWER than '..Said'. Prove '..Said' where nothing that the law and all that it calls make is longer than what came in: it says more and counts as full. Else prove '..UptoSaid'. A law counts once. -/
mutual
def uptoBulk {H : Type} : DataW H → Nat
  | .lit (.string bytes) => bytes.length + 1
  | .lit _ => 1
  | .nil => 1
  | .ptr d => uptoBulk d + 1
  | .slice elems spare => uptoBulkAll elems + uptoBulkAll spare + 1
  | .agg parts => uptoBulkAll parts + 1
  | .iface _ d => uptoBulk d + 1
  | .map entries => uptoBulkEntries entries + 1
  | .held _ => 1
def uptoBulkAll {H : Type} : List (DataW H) → Nat
  | [] => 0
  | d :: r => uptoBulk d + uptoBulkAll r
def uptoBulkEntries {H : Type} : List (Lit × DataW H) → Nat
  | [] => 0
  | x :: r => uptoBulkEntry x + uptoBulkEntries r
def uptoBulkEntry {H : Type} : Lit × DataW H → Nat
  | (.string bytes, d) => bytes.length + uptoBulk d + 1
  | (_, d) => uptoBulk d + 1
 end
def uptoSmall : (H : Type) → List (DataW H) → Bool := fun _ ds => decide (uptoBulkAll ds ≤ 1048576)
def OpenSpec.upto (s : _root_.Go.ChangeSpec) : _root_.Go.OpenSpec := { _root_.Go.OpenSpec.ofChange s with cond := some uptoSmall }

/-- 'entrepotlaw14.StoreOnce', WHERE WHAT IT READS IS OF BULK AT MOST 1048576: true; the input reads as it did. -/
def storeOnceUptoRow : OpenClaim := { program := "ytodoklnohedolaa", sum := "7c338f046ded7e3d5ae5c5279a6493c73a46cbb20752e8eda95d5a9f49772266", func := "entrepot/entrepotlaw14.StoreOnce", spec := "storeOnce", inPlace := ["internal/abi.NoEscape"], unfollowed := true, recurses := true, apart := false, narrowed := true }
def StoreOnceUptoSaid : Prop := storeOnceUptoRow.holds Try.pinned (OpenSpec.upto storeOnceSpec)

/-- 'entrepotlaw17.UploadDone', WHERE WHAT IT READS IS OF BULK AT MOST 1048576: true; the input reads as it did. -/
def uploadDoneUptoRow : OpenClaim := { program := "ytodoklnohedolaa", sum := "7c338f046ded7e3d5ae5c5279a6493c73a46cbb20752e8eda95d5a9f49772266", func := "entrepot/entrepotlaw17.UploadDone", spec := "uploadDone", apart := false, narrowed := true }
def UploadDoneUptoSaid : Prop := uploadDoneUptoRow.holds Try.pinned (OpenSpec.upto uploadDoneSpec)

/-- 'entrepotlaw17.UploadCalm', WHERE WHAT IT READS IS OF BULK AT MOST 1048576: true; the input reads as it did. -/
def uploadCalmUptoRow : OpenClaim := { program := "ytodoklnohedolaa", sum := "7c338f046ded7e3d5ae5c5279a6493c73a46cbb20752e8eda95d5a9f49772266", func := "entrepot/entrepotlaw17.UploadCalm", spec := "uploadCalm", apart := false, narrowed := true }
def UploadCalmUptoSaid : Prop := uploadCalmUptoRow.holds Try.pinned (OpenSpec.upto uploadCalmSpec)

/-- 'entrepotlaw17.UploadGivesUp', WHERE WHAT IT READS IS OF BULK AT MOST 1048576: true; the input reads as it did. -/
def uploadGivesUpUptoRow : OpenClaim := { program := "ytodoklnohedolaa", sum := "7c338f046ded7e3d5ae5c5279a6493c73a46cbb20752e8eda95d5a9f49772266", func := "entrepot/entrepotlaw17.UploadGivesUp", spec := "uploadGivesUp", apart := false, narrowed := true }
def UploadGivesUpUptoSaid : Prop := uploadGivesUpUptoRow.holds Try.pinned (OpenSpec.upto uploadGivesUpSpec)

/-- 'entrepotlaw17.UploadPaces', WHERE WHAT IT READS IS OF BULK AT MOST 1048576: true; the input reads as it did. -/
def uploadPacesUptoRow : OpenClaim := { program := "ytodoklnohedolaa", sum := "7c338f046ded7e3d5ae5c5279a6493c73a46cbb20752e8eda95d5a9f49772266", func := "entrepot/entrepotlaw17.UploadPaces", spec := "uploadPaces", apart := false, narrowed := true }
def UploadPacesUptoSaid : Prop := uploadPacesUptoRow.holds Try.pinned (OpenSpec.upto uploadPacesSpec)

end Rows
end Go.Proofs.Ytodoklnohedolaa
