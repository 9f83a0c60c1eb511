/- A store's call that came in, opened. -/
import Derived.Test.YtjafagfhkpaciaaStoAct
namespace Go.Proofs.Ytjafagfhkpaciaa
open Go.ChangeShapes Go.WideShapes Go.Deep Go.RowKit
set_option linter.unusedVariables false
def callA (x : ActV) : Array Value := #[.int .i64 x.ki, .string x.ky, .slice x.da x.dn x.dc, .int .i64 x.vr, .int .i64 x.at', .int .i64 x.nn, .int .i64 x.id]
theorem open_call {H : Type} {enc : TypeId × Value → H} {W : World} {fuel : Nat} {cs : Array Value} {x : DataW H × List MemPlace}
    (hf : DataW.trod enc Try.prog W 0 (fun _ => true) true fuel 29 cs.toList = some x) (hw : ∀ n, n ∈ DataW.weights Try.prog 29 x.1 → n ≤ reachBytes) :
    ∃ r : ActV, cs = callA r ∧ ActS.ok W r := by
  obtain ⟨s0, s1, a2, n2, c2, l2, s3, s4, s5, s6, hcs, q0, q1, q2, q3, q4, q5, q6, _⟩ := call_fields0 hf hw
  exact ⟨⟨s0, s1, a2, n2, c2, l2, s3, s4, s5, s6, 0⟩, by rw [← Array.toList_inj, hcs]; rfl, q2, q1, q6, q4⟩
end Go.Proofs.Ytjafagfhkpaciaa
