/- Heaps of integers in a list, plain: the first is least; a step up, a step down. -/
import Derived.WalkKit
namespace Go.Proofs.Ytpcgjladooijmaa
namespace Hp
/-- every thing is at least the one above it -/
def Ok (z : Nat → Int) (n : Nat) : Prop := ∀ k, 0 < k → k < n → z ((k - 1) / 2) ≤ z k
theorem Ok.least {z : Nat → Int} {n : Nat} (h : Ok z n) : ∀ k, k < n → z 0 ≤ z k := by
  intro k
  induction k using Nat.strongRecOn with
  | _ k ih =>
    intro hk
    by_cases h0 : k = 0
    · subst h0; exact Int.le_refl _
    · exact Int.le_trans (ih ((k - 1) / 2) (by omega) (by omega)) (h k (by omega) hk)
/-- two places turned -/
def sw (z : Nat → Int) (i k : Nat) : Nat → Int := fun j => if j = k then z i else if j = i then z k else z j
/-- all but the place at stand right; what is below it is right to what is above it -/
def Up (z : Nat → Int) (n a : Nat) : Prop := (∀ k, 0 < k → k < n → k ≠ a → z ((k - 1) / 2) ≤ z k) ∧ (∀ k, 0 < k → k < n → (k - 1) / 2 = a → 0 < a → z ((a - 1) / 2) ≤ z k)
theorem Up.done {z : Nat → Int} {n a : Nat} (h : Up z n a) (hd : a = 0 ∨ z ((a - 1) / 2) ≤ z a) : Ok z n := by
  intro k h0 hk
  by_cases e : k = a
  · subst e
    rcases hd with hd | hd
    · omega
    · exact hd
  · exact h.1 k h0 hk e
theorem Up.step {z : Nat → Int} {n a : Nat} (h : Up z n a) (ha : 0 < a) (han : a < n) (hlt : z a < z ((a - 1) / 2)) : Up (sw z a ((a - 1) / 2)) n ((a - 1) / 2) := by
  obtain ⟨m, hm⟩ : ∃ m, m = (a - 1) / 2 := ⟨_, rfl⟩
  rw [← hm] at hlt ⊢
  have hma : m ≠ a := by omega
  refine ⟨fun k h0 hk hne => ?_, fun k h0 hk hkm h0m => ?_⟩
  · unfold sw
    by_cases e1 : k = a
    · subst e1
      rw [← hm, if_pos rfl, if_neg hne, if_pos rfl]
      omega
    · rw [if_neg hne, if_neg e1]
      by_cases e2 : (k - 1) / 2 = m
      · rw [if_pos e2]
        have := h.1 k h0 hk e1
        rw [e2] at this
        omega
      · rw [if_neg e2]
        by_cases e3 : (k - 1) / 2 = a
        · rw [if_pos e3]
          have := h.2 k h0 hk e3 ha
          rw [← hm] at this
          exact this
        · rw [if_neg e3]
          exact h.1 k h0 hk e1
  · have hm1 : (m - 1) / 2 ≠ m := by omega
    have hm2 : (m - 1) / 2 ≠ a := by omega
    have hmm := h.1 m h0m (by omega) hma
    unfold sw
    rw [if_neg hm1, if_neg hm2]
    have hkm' : k ≠ m := by omega
    rw [if_neg hkm']
    by_cases e1 : k = a
    · rw [if_pos e1]; exact hmm
    · rw [if_neg e1]
      have := h.1 k h0 hk e1
      rw [hkm] at this
      omega
/-- all but what is right below the place at stand right; what is below it is right to what is above it -/
def Dn (z : Nat → Int) (n a : Nat) : Prop := (∀ k, 0 < k → k < n → (k - 1) / 2 ≠ a → z ((k - 1) / 2) ≤ z k) ∧ (∀ k, 0 < k → k < n → (k - 1) / 2 = a → 0 < a → z ((a - 1) / 2) ≤ z k)
theorem Dn.done {z : Nat → Int} {n a : Nat} (h : Dn z n a) (hd : ∀ k, 0 < k → k < n → (k - 1) / 2 = a → z a ≤ z k) : Ok z n := by
  intro k h0 hk
  by_cases e : (k - 1) / 2 = a
  · rw [e]; exact hd k h0 hk e
  · exact h.1 k h0 hk e
theorem Dn.step {z : Nat → Int} {n a c : Nat} (h : Dn z n a) (hc0 : 0 < c) (hcn : c < n) (hca : (c - 1) / 2 = a) (hlt : z c < z a) (hle : ∀ k, 0 < k → k < n → (k - 1) / 2 = a → z c ≤ z k) : Dn (sw z a c) n c := by
  have hne : a ≠ c := by omega
  refine ⟨fun k h0 hk hp => ?_, fun k h0 hk hp _ => ?_⟩
  · unfold sw
    rw [if_neg hp]
    by_cases e1 : (k - 1) / 2 = a
    · rw [if_pos e1]
      by_cases e2 : k = c
      · rw [if_pos e2]; omega
      · rw [if_neg e2]
        have hka : k ≠ a := by omega
        rw [if_neg hka]
        exact hle k h0 hk e1
    · rw [if_neg e1]
      have hkc : k ≠ c := fun e => e1 (by rw [e]; exact hca)
      rw [if_neg hkc]
      by_cases e3 : k = a
      · rw [if_pos e3, e3]
        have := h.2 c hc0 hcn hca (by omega)
        exact this
      · rw [if_neg e3]
        exact h.1 k h0 hk e1
  · unfold sw
    have hkc : k ≠ c := by omega
    have hka : k ≠ a := by omega
    rw [hca, if_neg hne, if_pos rfl, if_neg hkc, if_neg hka]
    have := h.1 k h0 hk (by omega)
    rw [hp] at this
    exact this
end Hp
end Go.Proofs.Ytpcgjladooijmaa
