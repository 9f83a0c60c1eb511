/- Plain facts on numbers as few bytes: what PutU and U compute, on lists of naturals. No Go in sight. -/
import Derived.WalkKit
namespace Go.Proofs.Ytjafagfhkpaciaa.NumsPlain

/-- the bytes of a number -/
def pu (n : Nat) : List Nat := if n < 128 then [n] else (128 + n % 128) :: pu (n / 128)
termination_by n
decreasing_by omega

theorem pu_small {n : Nat} (h : n < 128) : pu n = [n] := by rw [pu, if_pos h]
theorem pu_big {n : Nat} (h : 128 ≤ n) : pu n = (128 + n % 128) :: pu (n / 128) := by rw [pu, if_neg (by omega)]

theorem pu_pos (n : Nat) : 1 ≤ (pu n).length := by
  by_cases h : n < 128
  · simp [pu_small h]
  · simp [pu_big (show 128 ≤ n by omega)]

/-- a number below 128 to the k has at most k bytes -/
theorem pu_le : ∀ (k n : Nat), n < 128 ^ (k + 1) → (pu n).length ≤ k + 1
  | 0, n, h => by simp [pu_small (show n < 128 by simpa using h)]
  | k + 1, n, h => by
    by_cases hs : n < 128
    · simp [pu_small hs]
    · rw [pu_big (by omega)]
      have h2 : n / 128 < 128 ^ (k + 1) := by
        rw [Nat.div_lt_iff_lt_mul (by omega)]
        rw [Nat.pow_succ 128 (k + 1)] at h
        exact h
      have := pu_le k (n / 128) h2
      simp; omega

theorem pu_ten {n : Nat} (h : n < 18446744073709551616) : (pu n).length ≤ 10 :=
  pu_le 9 n (Nat.lt_of_lt_of_le h (by decide))

theorem pu_mono : ∀ (k m n : Nat), n < 128 ^ (k + 1) → m ≤ n → (pu m).length ≤ (pu n).length
  | 0, m, n, h, hmn => by
    have h1 : n < 128 := by simpa using h
    rw [pu_small h1, pu_small (show m < 128 by omega)]
    simp
  | k + 1, m, n, h, hmn => by
    by_cases hs : m < 128
    · rw [pu_small hs]; exact pu_pos n
    · have hn : 128 ≤ n := by omega
      rw [pu_big hn, pu_big (show 128 ≤ m by omega)]
      have h2 : n / 128 < 128 ^ (k + 1) := by
        rw [Nat.div_lt_iff_lt_mul (by omega)]
        rw [Nat.pow_succ 128 (k + 1)] at h
        exact h
      have := pu_mono k (m / 128) (n / 128) h2 (Nat.div_le_div_right hmn)
      simp; omega

theorem pu_grows {m n : Nat} (h : n < 18446744073709551616) (hmn : m ≤ n) : (pu m).length ≤ (pu n).length :=
  pu_mono 9 m n (Nat.lt_of_lt_of_le h (by decide)) hmn

/-- each is a byte -/
theorem pu_byte : ∀ (k n : Nat), n < 128 ^ (k + 1) → ∀ x ∈ pu n, x < 256
  | 0, n, h, x, hx => by
    have h1 : n < 128 := by simpa using h
    rw [pu_small h1] at hx
    simp at hx; omega
  | k + 1, n, h, x, hx => by
    by_cases hs : n < 128
    · rw [pu_small hs] at hx
      simp at hx; omega
    · rw [pu_big (by omega)] at hx
      rcases List.mem_cons.1 hx with e | e
      · omega
      · have h2 : n / 128 < 128 ^ (k + 1) := by
          rw [Nat.div_lt_iff_lt_mul (by omega)]
          rw [Nat.pow_succ 128 (k + 1)] at h
          exact h
        exact pu_byte k (n / 128) h2 x e
theorem pu_bytes {n : Nat} (h : n < 18446744073709551616) : ∀ x ∈ pu n, x < 256 := pu_byte 9 n (Nat.lt_of_lt_of_le h (by decide))

/-- what reading a number comes to: the value so far, how many bytes are behind, the bytes ahead; the value, how many bytes, the error (0; 3: ErrShort; 4: ErrForm) -/
def uu : Nat → Nat → List Nat → Nat × Nat × Nat
  | _, _, [] => (0, 0, 3)
  | acc, i, x :: xs =>
    if i = 9 ∧ 1 < x then (0, 0, 4)
    else if 128 ≤ x then uu (acc + x % 128 * 128 ^ i) (i + 1) xs
    else if x = 0 ∧ 0 < i then (0, 0, 4)
    else (acc + x % 128 * 128 ^ i, i + 1, 0)

/-- what was put is read, whatever stands behind it -/
theorem uu_pu : ∀ (k acc i n : Nat) (rest : List Nat), k + i = 9 → n < 128 ^ (k + 1) → (i = 0 ∨ 0 < n) → (n * 128 ^ i < 18446744073709551616) →
    uu acc i (pu n ++ rest) = (acc + n * 128 ^ i, i + (pu n).length, 0)
  | 0, acc, i, n, rest, hki, h, h0, hb => by
    have h1 : n < 128 := by simpa using h
    obtain rfl : i = 9 := by omega
    have hn : n ≤ 1 := by
      rcases Nat.lt_or_ge 1 n with g | g
      · have : 2 * 128 ^ 9 ≤ n * 128 ^ 9 := Nat.mul_le_mul_right _ g
        have e : (2 : Nat) * 128 ^ 9 = 18446744073709551616 := by decide
        omega
      · exact g
    rw [pu_small h1]
    have hpos : 0 < n := by omega
    simp only [List.cons_append, List.nil_append, uu, List.length_cons, List.length_nil]
    rw [if_neg (by omega), if_neg (by omega), if_neg (by omega), Nat.mod_eq_of_lt h1]
  | k + 1, acc, i, n, rest, hki, h, h0, hb => by
    by_cases hs : n < 128
    · rw [pu_small hs]
      simp only [List.cons_append, List.nil_append, uu, List.length_cons, List.length_nil]
      rw [if_neg (by omega), if_neg (by omega), if_neg (by omega), Nat.mod_eq_of_lt hs]
    · have hn : 128 ≤ n := by omega
      rw [pu_big hn]
      simp only [List.cons_append, uu, List.length_cons]
      rw [if_neg (by omega), if_pos (by omega)]
      have h2 : n / 128 < 128 ^ (k + 1) := by
        rw [Nat.div_lt_iff_lt_mul (by omega)]
        rw [Nat.pow_succ 128 (k + 1)] at h
        exact h
      have hd : n / 128 * 128 + n % 128 = n := by omega
      have e1 : n / 128 * 128 ^ (i + 1) + n % 128 * 128 ^ i = n * 128 ^ i := by
        rw [Nat.pow_succ]
        calc n / 128 * (128 ^ i * 128) + n % 128 * 128 ^ i = (n / 128 * 128 + n % 128) * 128 ^ i := by
              rw [Nat.add_mul, Nat.mul_assoc, Nat.mul_comm 128 (128 ^ i)]
          _ = n * 128 ^ i := by rw [hd]
      have hb2 : n / 128 * 128 ^ (i + 1) < 18446744073709551616 := by omega
      rw [uu_pu k _ (i + 1) (n / 128) rest (by omega) h2 (.inr (by omega)) hb2]
      have e2 : (128 + n % 128) % 128 = n % 128 := by omega
      rw [e2]
      have e3 : acc + n % 128 * 128 ^ i + n / 128 * 128 ^ (i + 1) = acc + n * 128 ^ i := by omega
      rw [e3]
      congr 2
      omega

theorem uu_back {n : Nat} (h : n < 18446744073709551616) (rest : List Nat) : uu 0 0 (pu n ++ rest) = (n, (pu n).length, 0) := by
  have := uu_pu 9 0 0 n rest rfl (Nat.lt_of_lt_of_le h (by decide)) (.inl rfl) (by simpa using h)
  simpa using this

/-- none begins another -/
theorem pu_inj {m n : Nat} (hm : m < 18446744073709551616) (hn : n < 18446744073709551616) (h : ∃ r, pu n = pu m ++ r) : m = n := by
  obtain ⟨r, hr⟩ := h
  have h1 := uu_back hm r
  have h2 := uu_back hn []
  rw [List.append_nil, hr, h1] at h2
  exact congrArg Prod.fst h2
end Go.Proofs.Ytjafagfhkpaciaa.NumsPlain
