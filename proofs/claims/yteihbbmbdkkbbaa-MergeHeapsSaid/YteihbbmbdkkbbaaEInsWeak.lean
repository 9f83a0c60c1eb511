/- The order of entries is one with ties. -/
import Derived.Test.YteihbbmbdkkbbaaEIns
namespace Go.Proofs.Yteihbbmbdkkbbaa
open Stab LabPlain
set_option linter.unusedVariables false

/-- a comparison that says less, alike, more, and does so soundly -/
structure Good {α : Type} (c : α → α → Int) : Prop where
  anti : ∀ x y, c x y < 0 ↔ 0 < c y x
  tr : ∀ x y z, c x y ≤ 0 → c y z ≤ 0 → c x z ≤ 0 ∧ (c x z = 0 → c x y = 0 ∧ c y z = 0)
theorem Good.lex {α : Type} {c d : α → α → Int} (hc : Good c) (hd : Good d) : Good (fun x y => if c x y ≠ 0 then c x y else d x y) where
  anti x y := by
    have h1 := hc.anti x y
    have h2 := hc.anti y x
    have h3 := hd.anti x y
    show (if c x y ≠ 0 then c x y else d x y) < 0 ↔ 0 < (if c y x ≠ 0 then c y x else d y x)
    split <;> split <;> omega
  tr x y z h1 h2 := by
    have a1 := hc.anti x y
    have a2 := hc.anti y x
    have b1 := hc.anti y z
    have b2 := hc.anti z y
    have e1 := hc.tr x y z
    have e2 := hd.tr x y z
    have f1 := hc.anti x z
    have f2 := hc.anti z x
    show (if c x z ≠ 0 then c x z else d x z) ≤ 0 ∧ ((if c x z ≠ 0 then c x z else d x z) = 0 → (if c x y ≠ 0 then c x y else d x y) = 0 ∧ (if c y z ≠ 0 then c y z else d y z) = 0)
    have h1' : (if c x y ≠ 0 then c x y else d x y) ≤ 0 := h1
    have h2' : (if c y z ≠ 0 then c y z else d y z) ≤ 0 := h2
    clear h1 h2
    have e3 := hc.tr z y x
    split at h1' <;> split at h2' <;> split <;> simp_all <;> omega
theorem good3 {α : Type} (f : α → Int) : Good (fun x y => cmp3 (f x) (f y)) where
  anti x y := by
    show cmp3 (f x) (f y) < 0 ↔ 0 < cmp3 (f y) (f x)
    unfold cmp3; repeat' split
    all_goals omega
  tr x y z := by
    show cmp3 (f x) (f y) ≤ 0 → cmp3 (f y) (f z) ≤ 0 → cmp3 (f x) (f z) ≤ 0 ∧ (cmp3 (f x) (f z) = 0 → cmp3 (f x) (f y) = 0 ∧ cmp3 (f y) (f z) = 0)
    unfold cmp3; repeat' split
    all_goals omega
theorem ltB_total {a b : ByteArray} (h1 : ltB a b = false) (h2 : ltB b a = false) : a = b := by
  have h := leq_not a b
  rw [h2] at h
  have h3 : (Op.bytesLess a.toList b.toList) = false := h1
  rw [h3] at h
  simp at h
  exact toList_inj h
theorem goodS {α : Type} (f : α → ByteArray) : Good (fun x y => cmpS (f x) (f y)) where
  anti x y := by
    show cmpS (f x) (f y) < 0 ↔ 0 < cmpS (f y) (f x)
    unfold cmpS
    have hno : ¬ (ltB (f x) (f y) = true ∧ ltB (f y) (f x) = true) := fun h => by
      have := ltB_trans h.1 h.2
      rw [ltB_irrefl] at this; cases this
    repeat' split
    all_goals first | omega | (exfalso; exact hno ⟨by assumption, by assumption⟩) | simp_all
  tr x y z := by
    show cmpS (f x) (f y) ≤ 0 → cmpS (f y) (f z) ≤ 0 → cmpS (f x) (f z) ≤ 0 ∧ (cmpS (f x) (f z) = 0 → cmpS (f x) (f y) = 0 ∧ cmpS (f y) (f z) = 0)
    intro h1 h2
    have key : ∀ a b : ByteArray, cmpS a b ≤ 0 → (ltB a b = true ∧ cmpS a b = -1) ∨ (a = b ∧ cmpS a b = 0) := by
      intro a b h
      unfold cmpS at h ⊢
      cases h3 : ltB a b with
      | true => left; simp
      | false =>
        rw [h3] at h
        cases h4 : ltB b a with
        | true => rw [h4] at h; simp at h
        | false => right; exact ⟨ltB_total h3 h4, by simp⟩
    have self : ∀ a : ByteArray, cmpS a a = 0 := fun a => by unfold cmpS; simp [ltB_irrefl]
    have less : ∀ a b : ByteArray, ltB a b = true → cmpS a b = -1 := fun a b h => by unfold cmpS; rw [if_pos h]
    rcases key _ _ h1 with ⟨p1, p2⟩ | ⟨p1, p2⟩ <;> rcases key _ _ h2 with ⟨q1, q2⟩ | ⟨q1, q2⟩
    · rw [less _ _ (ltB_trans p1 q1)]; omega
    · rw [q1] at p2 p1 ⊢; rw [less _ _ p1]; omega
    · rw [p1]; rw [less _ _ q1]; omega
    · rw [p1, q1, self]; omega
theorem cmpEnt_lex : cmpEnt = (fun x y => if cmp3 (EntV.win x) (EntV.win y) ≠ 0 then cmp3 (EntV.win x) (EntV.win y) else if cmpS (EntV.part x) (EntV.part y) ≠ 0 then cmpS (EntV.part x) (EntV.part y) else if cmp3 (EntV.born x) (EntV.born y) ≠ 0 then cmp3 (EntV.born x) (EntV.born y) else cmpS (EntV.key x) (EntV.key y)) := by
  funext x y; rfl
theorem good_ent : Good cmpEnt := by
  have h := (good3 EntV.win).lex ((goodS EntV.part).lex ((good3 EntV.born).lex (goodS EntV.key)))
  rw [cmpEnt_lex]
  exact h
theorem weak_ltE : Weak ltE where
  irr x := by
    unfold ltE; rw [decide_eq_false_iff_not]
    have := good_ent.anti x x
    omega
  tr x y z h1 h2 := by
    unfold ltE at *
    rw [decide_eq_true_iff] at *
    have := good_ent.tr x y z (by omega) (by omega)
    omega
  co x y z h1 h2 := by
    unfold ltE at *
    rw [decide_eq_false_iff_not] at *
    have a1 := good_ent.anti x y
    have a2 := good_ent.anti y x
    have a3 := good_ent.anti y z
    have a4 := good_ent.anti z y
    have a5 := good_ent.anti x z
    have := good_ent.tr z y x (by omega) (by omega)
    omega
end Go.Proofs.Yteihbbmbdkkbbaa
