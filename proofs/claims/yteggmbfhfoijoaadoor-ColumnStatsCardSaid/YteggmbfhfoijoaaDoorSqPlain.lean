/- Squeezing, plain: the last place before a place where the same three bytes stand; how many bytes stand likewise; the best of the distances so far. -/
import Derived.Test.YteggmbfhfoijoaaDoorSqMap
namespace Go.Proofs.YteggmbfhfoijoaaDoor
set_option linter.unusedVariables false

def k3 (b : List Nat) (i : Nat) : K3 := (b.getD i 0, b.getD (i + 1) 0, b.getD (i + 2) 0)
theorem k3_B3 {b : List Nat} (hb : ∀ x ∈ b, x < 256) (i : Nat) : B3 (k3 b i) := by
  have h : ∀ j, b.getD j 0 < 256 := fun j => by
    rcases Nat.lt_or_ge j b.length with g | g
    · have e1 : b.getD j 0 = b[j] := by simp [g]
      rw [e1]
      exact hb _ (List.getElem_mem g)
    · simp [List.getD, List.getElem?_eq_none g]
  exact ⟨h _, h _, h _⟩

/-- the last place before p where these three bytes stand -/
def prev (b : List Nat) (k : K3) : Nat → Option Nat
  | 0 => none
  | p + 1 => if p + 3 ≤ b.length ∧ k3 b p = k then some p else prev b k p
theorem prev_lt {b : List Nat} {k : K3} : ∀ {p q : Nat}, prev b k p = some q → q < p ∧ q + 3 ≤ b.length ∧ k3 b q = k
  | 0, q, h => by cases h
  | p + 1, q, h => by
    simp only [prev] at h
    split at h
    · rename_i hc
      cases h
      exact ⟨by omega, hc.1, hc.2⟩
    · have := prev_lt h
      exact ⟨by omega, this.2⟩
/-- no place between -/
theorem prev_last {b : List Nat} {k : K3} : ∀ {p : Nat} {i : Nat}, i < p → i + 3 ≤ b.length → k3 b i = k → ∃ q, prev b k p = some q ∧ i ≤ q
  | p + 1, i, h, h1, h2 => by
    simp only [prev]
    split
    · exact ⟨p, rfl, by omega⟩
    · rename_i hc
      have hi : i < p := by
        rcases Nat.lt_or_ge i p with g | g
        · exact g
        · obtain rfl : i = p := by omega
          exact absurd ⟨h1, h2⟩ hc
      exact prev_last hi h1 h2
theorem prev_step {b : List Nat} {k : K3} {p : Nat} (h : p + 3 ≤ b.length) : prev b k (p + 1) = if k = k3 b p then some p else prev b k p := by
  simp only [prev]
  by_cases e : k3 b p = k
  · rw [if_pos ⟨h, e⟩, if_pos e.symm]
  · rw [if_neg (fun hc => e hc.2), if_neg (fun hc => e hc.symm)]
theorem prev_over {b : List Nat} {k : K3} {p : Nat} (h : ¬ p + 3 ≤ b.length) : prev b k (p + 1) = prev b k p := by
  simp only [prev]
  rw [if_neg (fun hc => h hc.1)]

/-- how many bytes, at most m, stand likewise from both places on -/
def like (b : List Nat) (i j : Nat) : Nat → Nat
  | 0 => 0
  | m + 1 => if b.getD i 0 = b.getD j 0 then like b (i + 1) (j + 1) m + 1 else 0
theorem like_le {b : List Nat} : ∀ {m i j : Nat}, like b i j m ≤ m
  | 0, i, j => Nat.le_refl _
  | m + 1, i, j => by
    simp only [like]
    split
    · have := @like_le b m (i + 1) (j + 1); omega
    · omega
theorem like_eq {b : List Nat} : ∀ {m i j k : Nat}, k < like b i j m → b.getD (i + k) 0 = b.getD (j + k) 0
  | m + 1, i, j, k, h => by
    simp only [like] at h
    split at h
    · rename_i e
      match k with
      | 0 => exact e
      | k + 1 =>
        have := @like_eq b m (i + 1) (j + 1) k (by omega)
        rw [show i + (k + 1) = i + 1 + k from by omega, show j + (k + 1) = j + 1 + k from by omega]
        exact this
    · omega
theorem like_ge {b : List Nat} : ∀ {m i j n : Nat}, n ≤ m → (∀ k, k < n → b.getD (i + k) 0 = b.getD (j + k) 0) → n ≤ like b i j m
  | m, i, j, 0, h, hk => Nat.zero_le _
  | m + 1, i, j, n + 1, h, hk => by
    simp only [like]
    rw [if_pos (by simpa using hk 0 (by omega))]
    have := @like_ge b m (i + 1) (j + 1) n (by omega) (fun k hlt => by
      have := hk (k + 1) (by omega)
      rw [show i + 1 + k = i + (k + 1) from by omega, show j + 1 + k = j + (k + 1) from by omega]
      exact this)
    omega
/-- it ends where the two differ -/
theorem like_end {b : List Nat} {m i j n : Nat} (hn : n < m) (hk : ∀ k, k < n → b.getD (i + k) 0 = b.getD (j + k) 0) (he : b.getD (i + n) 0 ≠ b.getD (j + n) 0) : like b i j m = n := by
  have h1 := like_ge (m := m) (Nat.le_of_lt hn) hk
  rcases Nat.lt_or_ge n (like b i j m) with g | g
  · exact absurd (like_eq g) he
  · omega
theorem like_full {b : List Nat} {m i j : Nat} (hk : ∀ k, k < m → b.getD (i + k) 0 = b.getD (j + k) 0) : like b i j m = m := Nat.le_antisymm like_le (like_ge (Nat.le_refl _) hk)

/-- how many bytes may be told at a place -/
def most (b : List Nat) (i : Nat) : Nat := min 258 (b.length - i)
/-- three bytes and more: just if the three bytes are the same -/
theorem like_three {b : List Nat} {i j : Nat} (hj : j + 3 ≤ b.length) : 3 ≤ like b i j (most b j) ↔ k3 b i = k3 b j := by
  have hm : 3 ≤ most b j := by unfold most; omega
  constructor
  · intro h
    have e0 := @like_eq b (most b j) i j 0 (by omega)
    have e1 := @like_eq b (most b j) i j 1 (by omega)
    have e2 := @like_eq b (most b j) i j 2 (by omega)
    simp only [k3, Prod.mk.injEq]
    exact ⟨e0, e1, e2⟩
  · intro h
    simp only [k3, Prod.mk.injEq] at h
    refine like_ge hm (fun k hk => ?_)
    match k, hk with
    | 0, _ => exact h.1
    | 1, _ => exact h.2.1
    | 2, _ => exact h.2.2

/-- the best of the distances 1 to d: how many bytes, from how far -/
def bestD (b : List Nat) (i : Nat) : Nat → Nat × Nat
  | 0 => (0, 0)
  | d + 1 =>
    let n := like b (i - (d + 1)) i (most b i)
    if 3 ≤ n ∧ (bestD b i d).1 < n then (n, d + 1) else bestD b i d
theorem bestD_step (b : List Nat) (i d : Nat) : bestD b i (d + 1) = if 3 ≤ like b (i - (d + 1)) i (most b i) ∧ (bestD b i d).1 < like b (i - (d + 1)) i (most b i) then (like b (i - (d + 1)) i (most b i), d + 1) else bestD b i d := rfl
theorem bestD_le {b : List Nat} {i : Nat} : ∀ {d : Nat}, (bestD b i d).1 ≤ most b i
  | 0 => Nat.zero_le _
  | d + 1 => by
    rw [bestD_step]
    split
    · exact like_le
    · exact bestD_le
/-- no distance between tells three bytes: the best stays -/
theorem bestD_skip {b : List Nat} {i d : Nat} : ∀ {e : Nat}, (∀ t, d < t → t ≤ d + e → ¬ 3 ≤ like b (i - t) i (most b i)) → bestD b i (d + e) = bestD b i d
  | 0, _ => rfl
  | e + 1, h => by
    rw [show d + (e + 1) = (d + e) + 1 from rfl, bestD_step, if_neg (fun hc => h (d + e + 1) (by omega) (by omega) hc.1)]
    exact bestD_skip (fun t h1 h2 => h t h1 (by omega))
/-- nothing is longer than the longest -/
theorem bestD_full {b : List Nat} {i d : Nat} (hf : (bestD b i d).1 = most b i) : ∀ {e : Nat}, bestD b i (d + e) = bestD b i d
  | 0 => rfl
  | e + 1 => by
    rw [show d + (e + 1) = (d + e) + 1 from rfl, bestD_step, if_neg (fun hc => ?_)]
    · exact bestD_full hf
    · rw [bestD_full hf, hf] at hc
      have := @like_le b (most b i) (i - (d + e + 1)) i
      omega
/-- what the best says -/
theorem bestD_says {b : List Nat} {i : Nat} : ∀ {d : Nat}, bestD b i d = (0, 0) ∨ (3 ≤ (bestD b i d).1 ∧ 1 ≤ (bestD b i d).2 ∧ (bestD b i d).2 ≤ d ∧ (bestD b i d).1 = like b (i - (bestD b i d).2) i (most b i))
  | 0 => Or.inl rfl
  | d + 1 => by
    rw [bestD_step]
    split
    · rename_i hc
      exact Or.inr ⟨hc.1, by simp, by simp, rfl⟩
    · rcases @bestD_says b i d with h | ⟨h1, h2, h3, h4⟩
      · exact Or.inl h
      · exact Or.inr ⟨h1, h2, by omega, h4⟩

/-- the token of a place: how many bytes, from how far (none: the byte) -/
def tokAt (b : List Nat) (i : Nat) : Nat × Nat × Nat :=
  let r := bestD b i (min i 32768)
  if r.1 = 0 then (0, 0, b.getD i 0) else (r.1, r.2, 0)
/-- the tokens from a place on -/
def toksFrom (b : List Nat) : Nat → Nat → List (Nat × Nat × Nat)
  | 0, _ => []
  | f + 1, i => if i < b.length then tokAt b i :: toksFrom b f (i + max 1 (tokAt b i).1) else []
def toks (b : List Nat) : List (Nat × Nat × Nat) := toksFrom b b.length 0
end Go.Proofs.YteggmbfhfoijoaaDoor
