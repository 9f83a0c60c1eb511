/- A symbol's place among those of its length; which symbols have a word. No Go in sight. -/
import Derived.Test.YtnfdojdppifmoaaDoorPrefMk
namespace Go.Proofs.YtnfdojdppifmoaaDoor
open Go.RowKit PrefPlain
set_option linter.unusedVariables false

/-- a symbol's place among those of its length -/
def pl (L : List Int) (s : Nat) : Nat := (sy L L.length (L.getD s 0).toNat).idxOf (s : Int)
theorem pl_ok {L : List Int} {s n : Nat} (hn : 0 < n) (hs : s < L.length) (h : L.getD s 0 = (n : Int)) : pl L s < (sy L L.length n).length ∧ (sy L L.length n).getD (pl L s) 0 = (s : Int) := by
  have hm := sy_mem hn hs h
  unfold pl
  rw [h, Int.toNat_natCast]
  have hlt := List.idxOf_lt_length_of_mem hm
  refine ⟨hlt, ?_⟩
  have e : (sy L L.length n).getD ((sy L L.length n).idxOf (s : Int)) 0 = (sy L L.length n)[(sy L L.length n).idxOf (s : Int)] := by simp [hlt]
  rw [e, List.getElem_idxOf]

/-- has a symbol a word? -/
def hasW (L : List Int) (x : Int) : Prop := 0 ≤ x ∧ x < (L.length : Int) ∧ L.getD x.toNat 0 ≠ 0
end Go.Proofs.YtnfdojdppifmoaaDoor
