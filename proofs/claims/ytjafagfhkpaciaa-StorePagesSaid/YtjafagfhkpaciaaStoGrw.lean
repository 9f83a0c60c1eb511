/- What stays of rows and stores behind other cells' turns. -/
import Derived.Test.YtjafagfhkpaciaaStoStep
import Derived.Test.YtjafagfhkpaciaaOwn
namespace Go.Proofs.Ytjafagfhkpaciaa
open Go.RowKit
set_option linter.unusedVariables false

theorem own_keepC {w w' : World} {base n k : Nat} {e : TypeId} {v : Value} {xs : List Value} (h : w.ownsRow base e k v n xs) (hk : KeepC w w') (he : e ≠ 61) : w'.ownsRow base e k v n xs := by
  refine ⟨h.1, ?_⟩
  rcases h.2 with g | ⟨g, cap, cu, h1, h2, h3, h4⟩
  · exact .inl g
  · exact .inr ⟨g, cap, cu, h1, h2, hk _ _ _ _ h3 he, h4⟩
theorem StIn.grow {base b' m k : Nat} {W W' : World} {s : Nat} {σ : Sto} {e : TypeId} {v : Value} {xs : List Value} (h : StIn base W s σ) (ho : W.ownsRow b' e k v m xs) (he : e ≠ 61) (hg : W.grownBy W' v.ownBlock) : StIn base W' s σ := by
  have hF : Frm (fun b => some b = v.ownBlock) W W' := ⟨hg.os, hg.tape, hg.output, hg.size, fun k hk hf => hg.block k hk hf⟩
  have hcell : ∀ b, some b = v.ownBlock → ∃ cu, W.heap[b]? = some (.cells cu e (0, 0)) := by
    intro b hb
    rcases ho.2 with ⟨rfl, hz⟩ | ⟨g, cap, cu, rfl, _, hh, _⟩
    · cases hb
    · cases hb; exact ⟨_, hh⟩
  obtain ⟨h0, ⟨Mo, Mu, h1, h2⟩ | ⟨h1, h2⟩⟩ := h
  · refine ⟨h0, .inl ⟨Mo, Mu, h1.same fun b hb => hF.block b (h1.lt hb) (fun e2 => ?_), h2⟩⟩
    obtain ⟨cu, hc⟩ := hcell b e2
    exact h1.not hc he hb
  · refine ⟨h0, .inr ⟨hF.at h1 (fun e2 => ?_), h2⟩⟩
    obtain ⟨cu, hc⟩ := hcell s e2
    have h' : W.heap[s]? = _ := h1
    rw [hc] at h'
    cases h'; exact he rfl
end Go.Proofs.Ytjafagfhkpaciaa
