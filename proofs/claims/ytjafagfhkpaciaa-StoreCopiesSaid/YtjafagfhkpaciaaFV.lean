/- Values told of by a property; a row that a call owns, where its block stands. -/
import Derived.Test.YtjafagfhkpaciaaOwn
namespace Go.Proofs.Ytjafagfhkpaciaa
open Go.RowKit
set_option linter.unusedVariables false

/-- values that are known, or told of by a property -/
def FV (vals : Nat → Option Value) (sp : Value → World → Prop) (j : Nat) (u : Value) (w : World) : Prop := match vals j with | some v => u = v | none => sp u w
theorem FV.mono {vals : Nat → Option Value} {sp : Value → World → Prop} {w w' : World} (h : ∀ u, sp u w → sp u w') : ∀ j y, FV vals sp j y w → FV vals sp j y w' := fun j y hy => by
  unfold FV at hy ⊢
  split at hy
  · exact hy
  · exact h y hy

/-- the same, each operation with a property of its own -/
def FV2 (vals : Nat → Option Value) (sp : Nat → Value → World → Prop) (j : Nat) (u : Value) (w : World) : Prop := match vals j with | some v => u = v | none => sp j u w
theorem FV2.mono {vals : Nat → Option Value} {sp : Nat → Value → World → Prop} {w w' : World} (h : ∀ j u, sp j u w → sp j u w') : ∀ j y, FV2 vals sp j y w → FV2 vals sp j y w' := fun j y hy => by
  unfold FV2 at hy ⊢
  split at hy
  · exact hy
  · exact h j y hy
theorem own_heap {w w' : World} {base : Nat} {e : TypeId} {size : Nat} {v : Value} {n : Nat} {xs : List Value} (h : w.ownsRow base e size v n xs) (hb : ∀ g, v.ownBlock = some g → w'.heap[g]? = w.heap[g]?) : w'.ownsRow base e size v n xs := by
  refine ⟨h.1, ?_⟩
  rcases h.2 with h0 | ⟨g, cap, cur, h1, h2, h3, h4⟩
  · exact .inl h0
  · refine .inr ⟨g, cap, cur, h1, h2, ?_, h4⟩
    rw [hb g (by rw [h1]; rfl)]; exact h3
end Go.Proofs.Ytjafagfhkpaciaa
