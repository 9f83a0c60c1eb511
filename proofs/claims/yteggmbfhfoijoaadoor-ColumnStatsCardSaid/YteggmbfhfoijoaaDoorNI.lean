/- What is read fits; PutI's reader I, walked; what is read is written so. -/
import Derived.Test.YteggmbfhfoijoaaDoorNRU
namespace Go.Proofs.YteggmbfhfoijoaaDoor
open Go.RowKit NumsPlain
set_option linter.unusedVariables false

theorem uu_lt : ∀ (l : List Nat) (acc i : Nat), i ≤ 9 → acc < 128 ^ i → (uu acc i l).1 < 18446744073709551616
  | [], _, _, _, _ => by simp [uu]
  | x :: xs, acc, i, hi, ha => by
    have h2 : (128 : Nat) ^ (i + 1) = 128 ^ i * 128 := Nat.pow_succ ..
    have h1 : x % 128 * 128 ^ i ≤ 127 * 128 ^ i := Nat.mul_le_mul_right _ (by omega)
    have h3 : (128 : Nat) ^ 9 = 9223372036854775808 := by decide
    simp only [uu]
    split
    · simp
    · rename_i hn
      rcases Nat.lt_or_ge i 9 with g | g
      · have h4 : (128 : Nat) ^ (i + 1) ≤ 128 ^ 9 := Nat.pow_le_pow_right (by omega) (by omega)
        split
        · exact uu_lt xs _ (i + 1) (by omega) (by omega)
        · split
          · simp
          · simp only; omega
      · obtain rfl : i = 9 := by omega
        rw [h3] at *
        have h5 : x % 128 * 9223372036854775808 ≤ 1 * 9223372036854775808 := Nat.mul_le_mul_right _ (by omega)
        split
        · omega
        · split
          · simp
          · simp only; omega

theorem uu_err : ∀ (l : List Nat) (acc i : Nat), (uu acc i l).2.2 ≠ 0 → (uu acc i l).1 = 0
  | [], _, _, _ => by simp [uu]
  | x :: xs, acc, i, h => by
    revert h
    simp only [uu]
    split
    · simp
    · split
      · exact uu_err xs _ _
      · split
        · simp
        · simp

theorem ru_lt (xs : List Nat) (at_ : Int) : (ru xs at_).1 < 18446744073709551616 := by
  unfold ru; split
  · simp
  · exact uu_lt _ 0 0 (by omega) (by simp)
theorem ru_err (xs : List Nat) (at_ : Int) (h : (ru xs at_).2.2 ≠ 0) : (ru xs at_).1 = 0 := by
  revert h
  unfold ru; split
  · simp
  · exact uu_err _ 0 0

set_option maxHeartbeats 1000000 in
theorem i_any {a : Option Addr} {n c : Nat} {xs : List Nat} {w : World} (h : BytesAt w a n c xs) (at_ : Int) :
    Calls Tryd.prog 55 #[.slice a n c, .int .i64 at_] w fun e w' => e = .returned (.tuple #[.int .i64 (zag (ru xs at_).1), .int .i64 ((ru xs at_).2.1 : Int), .int .i64 ((ru xs at_).2.2 : Int)]) ∧ w = w' := by
  have h1 := u_any h at_
  have h2 := ru_lt xs at_
  have H1 := Lib.hid h1
  have H2 := Lib.hid h2
  clear h h1 h2
  go_enter Tryd.func55, Tryd.ntmps55
  go_wp2_with fail
  refine H1.out.mono ?_
  rintro e w' ⟨rfl, rfl⟩
  unfold ruV
  go_wp2_with fail
  refine (zag_any _ H2.out _).mono ?_
  rintro e w' ⟨rfl, rfl⟩
  go_wp2_with fail
  go_ret3
  exact ⟨rfl, rfl⟩


/-- what is read is written so -/
theorem uu_conv : ∀ (l : List Nat) (acc i v j : Nat), (∀ x ∈ l, x < 256) → uu acc i l = (v, j, 0) → ∃ k n, j = i + k ∧ k ≤ l.length ∧ v = acc + n * 128 ^ i ∧ l.take k = pu n ∧ (i = 0 ∨ 0 < n)
  | [], _, _, _, _, _, h => by simp [uu] at h
  | x :: xs, acc, i, v, j, hb, h => by
    have hx := hb x (by simp)
    simp only [uu] at h
    split at h
    · simp at h
    · split at h
      · rename_i h128
        obtain ⟨k, n, rfl, hk, rfl, ht, hn⟩ := uu_conv xs _ _ v j (fun y hy => hb y (by simp [hy])) h
        have hn' : 0 < n := by omega
        refine ⟨k + 1, x % 128 + 128 * n, by omega, by simp; omega, ?_, ?_, by omega⟩
        · rw [Nat.pow_succ, Nat.add_mul, Nat.mul_comm 128 n, Nat.mul_assoc n 128, Nat.mul_comm 128 (128 ^ i)]; omega
        · rw [List.take_succ_cons, ht, pu_big (show 128 ≤ x % 128 + 128 * n by omega)]
          have e1 : (x % 128 + 128 * n) / 128 = n := by omega
          have e2 : 128 + (x % 128 + 128 * n) % 128 = x := by omega
          rw [e1, e2]
      · split at h
        · simp at h
        · simp only [Prod.mk.injEq, and_true] at h
          obtain ⟨rfl, rfl⟩ := h
          refine ⟨1, x, by omega, by simp, ?_, ?_, by omega⟩
          · rw [Nat.mod_eq_of_lt (by omega)]
          · rw [pu_small (by omega)]; simp

theorem ru_conv {xs : List Nat} {v j : Nat} (hb : ∀ x ∈ xs, x < 256) (h : ru xs 0 = (v, j, 0)) : j ≤ xs.length ∧ xs.take j = pu v := by
  rw [show (0 : Int) = ((0 : Nat) : Int) from rfl, ru_nat] at h
  simp only [List.drop_zero] at h
  obtain ⟨k, n, rfl, hk, rfl, ht, _⟩ := uu_conv xs 0 0 v j hb h
  simp only [Nat.zero_add, Nat.pow_zero, Nat.mul_one] at *
  exact ⟨hk, ht⟩

theorem ru_back {n : Nat} (h : n < 18446744073709551616) (r : List Nat) : ru (pu n ++ r) 0 = (n, (pu n).length, 0) := by
  rw [show (0 : Int) = ((0 : Nat) : Int) from rfl, ru_nat]
  simpa using uu_back h r

end Go.Proofs.YteggmbfhfoijoaaDoor
