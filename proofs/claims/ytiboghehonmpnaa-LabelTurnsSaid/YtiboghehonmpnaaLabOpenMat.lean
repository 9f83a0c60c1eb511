/- A matcher that came in, opened. -/
import Derived.Test.YtiboghehonmpnaaLabOpen
namespace Go.Proofs.Ytiboghehonmpnaa
open Go.ChangeShapes Go.WideShapes Go.Deep Go.RowKit LabPlain
set_option linter.unusedVariables false
theorem open_mat {H : Type} {enc : TypeId × Value → H} {W : World} {fuel : Nat} {cs : Array Value} {x : DataW H × List MemPlace}
    (hf : DataW.trod enc Try.prog W 0 (fun _ => true) true fuel 47 cs.toList = some x) (hw : ∀ n, n ∈ DataW.weights Try.prog 47 x.1 → n ≤ reachBytes) :
    ∃ (s0 : ByteArray) (s1 : Int) (s2 : ByteArray), cs = #[.string s0, .int .i64 s1, .string s2] ∧ s0.size ≤ 140737488355328 ∧ s2.size ≤ 140737488355328 := by
  obtain ⟨s0, s1, s2, hcs, hD⟩ := mat_fields hf
  have w0 := hw s0.data.toList.length (by rw [hD]; simp [DataW.weights, DataW.weightsEach, Try.underlying47])
  have w1 := hw s2.data.toList.length (by rw [hD]; simp [DataW.weights, DataW.weightsEach, Try.underlying47])
  have hr := reachBytes_lt
  refine ⟨s0, s1, s2, ?_, by simp at w0; show s0.size ≤ _; omega, by simp at w1; show s2.size ≤ _; omega⟩
  rw [← Array.toList_inj, hcs]
end Go.Proofs.Ytiboghehonmpnaa
