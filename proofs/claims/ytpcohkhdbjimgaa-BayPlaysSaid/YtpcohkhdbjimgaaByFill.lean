/- (XFill0 for a seat without []uint8.) A region whose operations come up in any order, as wp_region_fill, and that reads at its operation q a slot which its operation m assigns. -/
import Derived.Test.YtpcohkhdbjimgaaHpOrd
namespace Go.Proofs.Ytpcohkhdbjimgaa
open Go.RowKit
set_option linter.unusedVariables false

/-- values that are known, or told of by a property -/
def FV (vals : Nat → Option Value) (sp : Value → World → Prop) (j : Nat) (u : Value) (w : World) : Prop := match vals j with | some v => u = v | none => sp u w
theorem FV.mono {vals : Nat → Option Value} {sp : Value → World → Prop} {w w' : World} (h : ∀ u, sp u w → sp u w') : ∀ j y, FV vals sp j y w → FV vals sp j y w' := fun j y hy => by
  unfold FV at hy ⊢
  split at hy
  · exact hy
  · exact h y hy

/-- the same, each operation with a property of its own -/
def FV2 (vals : Nat → Option Value) (sp : Nat → Value → World → Prop) (j : Nat) (u : Value) (w : World) : Prop := match vals j with | some v => u = v | none => sp j u w
theorem FV2.mono {vals : Nat → Option Value} {sp : Nat → Value → World → Prop} {w w' : World} (h : ∀ j u, sp j u w → sp j u w') : ∀ j y, FV2 vals sp j y w → FV2 vals sp j y w' := fun j y hy => by
  unfold FV2 at hy ⊢
  split at hy
  · exact hy
  · exact h j y hy
/-- what has come up has all ahead of it that it waits for -/
def Closed (ops : Array Oper) (L : Nat → Bool) : Prop := ∀ (i : Nat) (o : Oper), ops[i]? = some o → L i = true → ∀ e : Edge, e ∈ o.after → Region.binds .any e = true → L e.on = true
theorem wp_region_fill0 {P : Program} {ops : Array Oper} {Q : Exit → Act → World → Prop} {id : Nat} {a : Act} {w : World} (hm : P.follows .mixedOrders = true)
    (hne : ((List.range ops.size).all fun i => (List.range ops.size).all fun j => decide (i = j) || (slotOf ops i == none) || !(slotOf ops i == slotOf ops j)) = true)
    (hac : ((List.range ops.size).all fun i => (ops[i]?).all fun (o : Oper) => o.after.all fun (e : Edge) => !Region.binds .any e || decide (e.on < i)) = true)
    (q m : Nat) (hpath : ∀ L : Nat → Bool, Closed ops L → L m = true → L q = true)
    (J : World → Prop) (F : Nat → Value → World → Prop) (hJ : J w.drew)
    (step : ∀ (i : Nat) (o : Oper), ops[i]? = some o → ∀ (v : Nat → Value) (w1 : World) (K : Act → World → Prop), J w1 → (i = q → v m = was ops a m) → (∀ e : Edge, e ∈ o.after → Region.binds .any e = true → F e.on (v e.on) w1) →
      (∀ x w2, J w2 → F i x w2 → (∀ j y, F j y w1 → F j y w2) → ∀ a2, a2 = (fill ops a v ops.size).put o.dst x → K a2 w2) →
      if Region.wanted o (yielded ops (fill ops a v ops.size).tmps) = true then Oper.wp P o (fill ops a v ops.size) w1 K Q else K ((fill ops a v ops.size).put o.dst undef) w1)
    (last : ∀ (v : Nat → Value) (w1 : World), J w1 → (∀ i, i < ops.size → F i (v i) w1) → Q .normal (fill ops a v ops.size) w1) : (Code.region id ops true).wp P Q a w := by
  refine wp_region_inv0 hm hne hac (fun L v w1 => J w1 ∧ (∀ i, L i = true → F i (v i) w1) ∧ Closed ops L ∧ (L m = false → v m = was ops a m)) ⟨hJ, fun i h => (by cases h), fun i o _ h => (by cases h), fun _ => rfl⟩ ?_ ?_
  · intro i o ho L v w1 K ⟨h1, h2, h3, h4⟩ hLi hdep hK
    refine step i o ho v w1 K h1 (fun e => h4 ?_) (fun e he hb => h2 _ (hdep e he hb)) (fun x w2 hJ2 hF hmono a2 ha2 => hK x w2 ⟨hJ2, fun j hj => ?_, ?_, ?_⟩ a2 ha2)
    · subst e
      cases hm : L m with
      | false => rfl
      | true => rw [hpath L h3 hm] at hLi; cases hLi
    · unfold upd
      by_cases e : j = i
      · subst e; rw [if_pos rfl]; exact hF
      · rw [if_neg e]
        dsimp only at hj
        rw [decide_eq_false e, Bool.or_false] at hj
        exact hmono j _ (h2 j hj)
    · intro j p hp hj e he hb
      by_cases e1 : j = i
      · subst e1
        rw [ho] at hp
        cases hp
        dsimp only
        rw [hdep e he hb]; rfl
      · dsimp only at hj ⊢
        rw [decide_eq_false e1, Bool.or_false] at hj
        rw [h3 j p hp hj e he hb]; rfl
    · intro hl
      unfold upd
      by_cases e : m = i
      · subst e; simp at hl
      · rw [if_neg e]
        dsimp only at hl
        rw [decide_eq_false e, Bool.or_false] at hl
        exact h4 hl
  · intro L v w1 ⟨h1, h2, _, _⟩ hall
    exact last v w1 h1 fun i hi => h2 i (hall i hi)
end Go.Proofs.Ytpcohkhdbjimgaa
