/- A region that draws its order, makes one box and fills it at its end, and reads besides: walked operation by operation. -/
import Derived.Test.YtjafagfhkpaciaaAnyOrd
namespace Go.Proofs.Ytjafagfhkpaciaa
open Go.RowKit
set_option linter.unusedVariables false

/-- what has come up: the values that are told, and the world: as it was, with the box empty, with the box filled -/
structure OB (w0 : World) (Z E : Obj) (vals : Nat → Option Value) (ia is : Nat) (L : Nat → Bool) (V : Nat → Value) (w : World) : Prop where
  val : ∀ i v, L i = true → vals i = some v → V i = v
  sa : L ia = false → w = w0.drew
  sb : L ia = true → L is = false → w = (w0.alloc Z).drew
  sc : L is = true → w = (w0.alloc E).drew
  so : L is = true → L ia = true
section
variable {w0 w : World} {Z E : Obj} {vals : Nat → Option Value} {ia is : Nat} {L : Nat → Bool} {V : Nat → Value}
theorem OB.start (V : Nat → Value) : OB w0 Z E vals ia is (fun _ => false) V w0.drew :=
  ⟨fun _ _ h => Bool.noConfusion h, fun _ => rfl, fun h => Bool.noConfusion h, fun h => Bool.noConfusion h, fun h => Bool.noConfusion h⟩
theorem OB.below (h : OB w0 Z E vals ia is L V w) : Below w0.heap.size w0 w := by
  cases ea : L ia with
  | false => rw [h.sa ea]; exact (Below.refl _ _).drew
  | true =>
    cases es : L is with
    | false => rw [h.sb ea es]; exact ((Below.refl _ _).alloc (Nat.le_refl _) _).drew
    | true => rw [h.sc es]; exact ((Below.refl _ _).alloc (Nat.le_refl _) _).drew
theorem OB.vals' (h : OB w0 Z E vals ia is L V w) {j : Nat} {u : Value} (hv : ∀ v, vals j = some v → u = v) : ∀ i v, (L i || decide (i = j)) = true → vals i = some v → upd V j u i = v := by
  intro i v hi he
  unfold upd
  by_cases e : i = j
  · subst e; rw [if_pos rfl]; exact hv v he
  · rw [if_neg e]
    rw [decide_eq_false e, Bool.or_false] at hi
    exact h.val i v hi he
theorem OB.put (h : OB w0 Z E vals ia is L V w) (j : Nat) (u : Value) (ha : (decide (ia = j) || decide (is = j)) = false) (hv : ∀ v, vals j = some v → u = v) : OB w0 Z E vals ia is (fun i => L i || decide (i = j)) (upd V j u) w := by
  simp only [Bool.or_eq_false_iff, decide_eq_false_iff_not] at ha
  have e1 : decide (ia = j) = false := decide_eq_false ha.1
  have e2 : decide (is = j) = false := decide_eq_false ha.2
  refine ⟨h.vals' hv, ?_, ?_, ?_, ?_⟩ <;> simp only [e1, e2, Bool.or_false]
  · exact h.sa
  · exact h.sb
  · exact h.sc
  · exact h.so
theorem OB.puta (h : OB w0 Z E vals ia is L V w) (hne : ia ≠ is) (ha : L ia = false) (u : Value) (hv : ∀ v, vals ia = some v → u = v) : OB w0 Z E vals ia is (fun i => L i || decide (i = ia)) (upd V ia u) (w0.alloc Z).drew := by
  have hs : L is = false := by
    cases e : L is with
    | false => rfl
    | true => rw [h.so e] at ha; cases ha
  have e2 : decide (is = ia) = false := decide_eq_false (Ne.symm hne)
  refine ⟨h.vals' hv, ?_, ?_, ?_, ?_⟩
  · intro e; simp at e
  · intro _ _; rfl
  · simp only [hs, e2, Bool.or_false]; intro e; cases e
  · intro _; simp
theorem OB.puts (h : OB w0 Z E vals ia is L V w) (ha : L ia = true) (u : Value) (hv : ∀ v, vals is = some v → u = v) : OB w0 Z E vals ia is (fun i => L i || decide (i = is)) (upd V is u) (w0.alloc E).drew := by
  refine ⟨h.vals' hv, ?_, ?_, ?_, ?_⟩
  · intro e; simp [ha] at e
  · intro _ e; simp at e
  · intro _; rfl
  · intro _; simp [ha]
end
end Go.Proofs.Ytjafagfhkpaciaa
