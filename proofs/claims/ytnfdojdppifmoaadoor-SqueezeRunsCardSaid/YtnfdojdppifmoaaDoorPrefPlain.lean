/- Prefix codes by their lengths: symbols of a length, first words, whether they fit. No Go in sight. -/
import Derived.WalkKit
namespace Go.Proofs.YtnfdojdppifmoaaDoor.PrefPlain
open Go
set_option linter.unusedVariables false

/-- the symbols, of the first k, with words of n bits -/
def sy (L : List Int) (k n : Nat) : List Int := if n = 0 then [] else ((List.range k).filter fun s => L.getD s 0 == (n : Int)).map fun (s : Nat) => (s : Int)
theorem sy_zero (L : List Int) (k : Nat) : sy L k 0 = [] := by simp [sy]
theorem sy_start (L : List Int) (n : Nat) : sy L 0 n = [] := by unfold sy; split <;> simp
theorem sy_hit {L : List Int} {k n : Nat} (hn : 0 < n) (h : L.getD k 0 = (n : Int)) : sy L (k + 1) n = sy L k n ++ [(k : Int)] := by
  unfold sy
  rw [if_neg (by omega), if_neg (by omega), List.range_succ, List.filter_append, List.map_append]
  have : (L.getD k 0 == (n : Int)) = true := by rw [beq_iff_eq]; exact h
  rw [List.filter_cons_of_pos (by simpa using this)]
  rfl
theorem sy_miss {L : List Int} {k n : Nat} (h : L.getD k 0 ≠ (n : Int)) : sy L (k + 1) n = sy L k n := by
  unfold sy
  split
  · rfl
  · rw [List.range_succ, List.filter_append, List.map_append]
    have : (L.getD k 0 == (n : Int)) = false := by rw [beq_eq_false_iff_ne]; exact h
    rw [List.filter_cons_of_neg (by rw [this]; simp)]
    simp
theorem sy_len (L : List Int) (k n : Nat) : (sy L k n).length ≤ k := by
  unfold sy
  split
  · simp
  · rw [List.length_map]
    exact Nat.le_trans (List.length_filter_le _ _) (by simp)
theorem sy_rise (L : List Int) (k n : Nat) : (sy L k n).Pairwise (· < ·) := by
  unfold sy
  split
  · exact List.Pairwise.nil
  · rw [List.pairwise_map]
    exact ((List.pairwise_lt_range).filter _).imp (fun h => by omega)
theorem sy_mem {L : List Int} {k n s : Nat} (hn : 0 < n) (hs : s < k) (h : L.getD s 0 = (n : Int)) : (s : Int) ∈ sy L k n := by
  unfold sy
  rw [if_neg (by omega)]
  simp only [List.mem_map, List.mem_filter, List.mem_range, beq_iff_eq]
  exact ⟨s, ⟨hs, h⟩, rfl⟩
theorem sy_bound {L : List Int} {k n : Nat} : ∀ x ∈ sy L k n, 0 ≤ x ∧ x < (k : Int) := by
  intro x hx
  unfold sy at hx
  split at hx
  · cases hx
  · simp only [List.mem_map, List.mem_filter, List.mem_range] at hx
    obtain ⟨s, ⟨hs, _⟩, rfl⟩ := hx
    omega
/-- a symbol's place among those of its length -/
theorem sy_place {L : List Int} {k n s : Nat} (hn : 0 < n) (hs : s < k) (h : L.getD s 0 = (n : Int)) : ∃ p, p < (sy L k n).length ∧ (sy L k n).getD p 0 = (s : Int) := by
  obtain ⟨p, hp, he⟩ := List.getElem_of_mem (sy_mem hn hs h)
  exact ⟨p, hp, by simp [hp, he]⟩
theorem sy_lt {L : List Int} {k n i j : Nat} (hij : i < j) (hj : j < (sy L k n).length) : (sy L k n).getD i 0 < (sy L k n).getD j 0 := by
  have h := List.pairwise_iff_getElem.1 (sy_rise L k n) i j (by omega) hj hij
  have e1 : (sy L k n).getD i 0 = (sy L k n)[i]'(by omega) := by simp [show i < (sy L k n).length by omega]
  have e2 : (sy L k n).getD j 0 = (sy L k n)[j] := by simp [hj]
  rw [e1, e2]; exact h

/-- the greatest of the first k lengths -/
def mo (L : List Int) : Nat → Nat
  | 0 => 0
  | k + 1 => max (mo L k) (L.getD k 0).toNat

/-- the first word of each length, by how many there are of each -/
def fw (c : Nat → Nat) : Nat → Nat
  | 0 => 0
  | 1 => 0
  | n + 2 => 2 * (fw c (n + 1) + c (n + 1))
theorem fw_next (c : Nat → Nat) {n : Nat} (h : 1 ≤ n) : fw c (n + 1) = 2 * (fw c n + c n) := by
  obtain ⟨m, rfl⟩ : ∃ m, n = m + 1 := ⟨n - 1, by omega⟩
  rfl
theorem fw_le (c : Nat → Nat) (hc : ∀ n, c n ≤ 400) : ∀ n, fw c n + 800 ≤ 800 * 2 ^ n
  | 0 => by simp [fw]
  | 1 => by simp [fw]
  | n + 2 => by
    have h := fw_le c hc (n + 1)
    have hcn := hc (n + 1)
    rw [fw, Nat.pow_succ]
    omega
theorem fw_ge (c : Nat → Nat) {n : Nat} (hn : 1 ≤ n) : ∀ d, 2 ^ (d + 1) * (fw c n + c n) ≤ fw c (n + (d + 1))
  | 0 => by rw [fw_next c hn]; omega
  | d + 1 => by
    have h := fw_ge c hn d
    rw [show n + (d + 1 + 1) = (n + (d + 1)) + 1 from by omega, fw_next c (by omega), Nat.pow_succ, Nat.mul_comm (2 ^ (d + 1)) 2, Nat.mul_assoc]
    omega
/-- no word begins another -/
theorem no_begin (c : Nat → Nat) {n m i j : Nat} (hn : 1 ≤ n) (hnm : n < m) (hi : i < c n) : (fw c m + j) / 2 ^ (m - n) ≠ fw c n + i := by
  obtain ⟨d, rfl⟩ : ∃ d, m = n + (d + 1) := ⟨m - n - 1, by omega⟩
  have h := fw_ge c hn d
  rw [show n + (d + 1) - n = d + 1 from by omega]
  intro e
  have h2 : fw c n + c n ≤ (fw c (n + (d + 1)) + j) / 2 ^ (d + 1) := by
    rw [Nat.le_div_iff_mul_le (Nat.two_pow_pos _), Nat.mul_comm]
    omega
  omega

/-- the sum of what the words of the first lengths take -/
def su (c : Nat → Nat) : Nat → Nat
  | 0 => 0
  | n + 1 => su c n + c n * 2 ^ (15 - n)
theorem su_le (c : Nat → Nat) (hc : ∀ n, c n ≤ 400) : ∀ n, su c n ≤ n * (400 * 32768)
  | 0 => by simp [su]
  | n + 1 => by
    have h := su_le c hc n
    have h1 : c n * 2 ^ (15 - n) ≤ 400 * 32768 := Nat.mul_le_mul (hc n) (Nat.pow_le_pow_right (by omega) (show 15 - n ≤ 15 by omega))
    rw [su]; omega
/-- do they fit? -/
def fitsB (c : Nat → Nat) (most : Nat) : Bool := decide (su c 16 = 32768) || (decide (su c 16 = 0) || (decide (most = 1) && decide (c 1 = 1)))

/-- are the first k lengths lengths? -/
def okL (L : List Int) (k : Nat) : Prop := ∀ s, s < k → 0 ≤ L.getD s 0 ∧ L.getD s 0 ≤ 15
def allOk (L : List Int) : Bool := L.all fun x => decide (0 ≤ x) && decide (x ≤ 15)
theorem allOk_of {L : List Int} (h : okL L L.length) : allOk L = true := by
  unfold allOk
  rw [List.all_eq_true]
  intro x hx
  obtain ⟨i, hi, rfl⟩ := List.getElem_of_mem hx
  have := h i hi
  have e : L.getD i 0 = L[i] := by simp [hi]
  rw [e] at this
  simpa using this
theorem allOk_no {L : List Int} {k : Nat} (hk : k < L.length) (h : L.getD k 0 < 0 ∨ 15 < L.getD k 0) : allOk L = false := by
  rw [← Bool.not_eq_true]
  unfold allOk
  rw [List.all_eq_true]
  intro hall
  have := hall _ (List.getElem_mem hk)
  have e : L.getD k 0 = L[k] := by simp [hk]
  rw [e] at h
  simp at this
  omega
theorem okL_succ {L : List Int} {k : Nat} (h : okL L k) (h1 : 0 ≤ L.getD k 0 ∧ L.getD k 0 ≤ 15) : okL L (k + 1) := fun s hs => by
  rcases Nat.lt_or_ge s k with g | g
  · exact h s g
  · obtain rfl : s = k := by omega
    exact h1
def cn (L : List Int) (n : Nat) : Nat := (sy L L.length n).length
/-- what Make answers -/
def mk (L : List Int) : Nat := if 320 < L.length then 5 else if allOk L = false then 1 else if fitsB (cn L) (mo L L.length) = false then 4 else 0
end Go.Proofs.YtnfdojdppifmoaaDoor.PrefPlain
