/- The law's own four entries, and what is chosen of them. Plain. -/
import Derived.Test.YteihbbmbdkkbbaaEChoPlain
namespace Go.Proofs.Yteihbbmbdkkbbaa
open LabPlain Stab
set_option linter.unusedVariables false

def lv (k : ByteArray) (r b : Int) : EntV := ⟨k, 0, ByteArray.empty, 0, 0, r, 0, 0, b⟩
def lives4 : List EntV := [lv ⟨#[97]⟩ 3 0, lv ⟨#[98]⟩ 9 1, lv ⟨#[99]⟩ 4 2, lv ⟨#[100]⟩ 2 3]
theorem lv_lt {k k' : ByteArray} {r r' b b' : Int} (h : b < b') : ltE (lv k r b) (lv k' r' b') = true := by
  have e1 : cmp3 (lv k r b).win (lv k' r' b').win = 0 := rfl
  have e2 : cmpS (lv k r b).part (lv k' r' b').part = 0 := by show cmpS ByteArray.empty ByteArray.empty = 0; unfold cmpS; simp [ltB_irrefl]
  have e3 : cmp3 (lv k r b).born (lv k' r' b').born = -1 := by show cmp3 b b' = -1; unfold cmp3; rw [if_pos h]
  unfold ltE
  rw [decide_eq_true_iff, cmpEnt_lex]
  simp [e1, e2, e3]
theorem lives_fs {fs : List EntV} (hp : fs.Pairwise (fun x y => ltE x y = true)) (hm : ∀ x, x ∈ fs ↔ x ∈ lives4 ∧ x.rows < 5) : fs = [lv ⟨#[97]⟩ 3 0, lv ⟨#[99]⟩ 4 2, lv ⟨#[100]⟩ 2 3] := by
  refine sorted_eq (R := fun x y => ltE x y = true) (fun x h => by have := weak_ltE.irr x; rw [h] at this; cases this) (fun x y z h1 h2 => weak_ltE.tr x y z h1 h2) _ _ hp ?_ (fun x => ?_)
  · simp [lv_lt]
  · rw [hm x]
    unfold lives4
    constructor
    · rintro ⟨h1, h2⟩
      simp only [List.mem_cons, List.not_mem_nil, or_false] at h1 ⊢
      rcases h1 with h | h | h | h
      · exact .inl h
      · rw [h] at h2; exact absurd h2 (by decide)
      · exact .inr (.inl h)
      · exact .inr (.inr h)
    · intro h1
      simp only [List.mem_cons, List.not_mem_nil, or_false] at h1 ⊢
      rcases h1 with h | h | h
      · exact ⟨.inl h, by rw [h]; decide⟩
      · exact ⟨.inr (.inr (.inl h)), by rw [h]; decide⟩
      · exact ⟨.inr (.inr (.inr h)), by rw [h]; decide⟩
theorem lives_cho : cho 8 [lv ⟨#[97]⟩ 3 0, lv ⟨#[99]⟩ 4 2, lv ⟨#[100]⟩ 2 3] = [⟨#[97]⟩, ⟨#[99]⟩] := by
  simp [cho, tog, lv]
end Go.Proofs.Yteihbbmbdkkbbaa
