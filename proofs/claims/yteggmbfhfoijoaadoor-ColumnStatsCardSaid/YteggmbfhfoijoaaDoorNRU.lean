/- The document's U, walked: at any place of any bytes it answers what the plain function says. -/
import Derived.Test.YteggmbfhfoijoaaDoorNU
namespace Go.Proofs.YteggmbfhfoijoaaDoor
open Go.RowKit NumsPlain
set_option linter.unusedVariables false

namespace NumsPlain
/-- the value of the first k digits -/
def val (ys : List Nat) : Nat → Nat
  | 0 => 0
  | k + 1 => val ys k + ys.getD k 0 % 128 * 128 ^ k
theorem val_lt (ys : List Nat) : ∀ k, val ys k < 128 ^ k
  | 0 => by simp [val]
  | k + 1 => by
    have h := val_lt ys k
    have h1 : ys.getD k 0 % 128 * 128 ^ k ≤ 127 * 128 ^ k := Nat.mul_le_mul_right _ (by omega)
    have h2 : (128 : Nat) ^ (k + 1) = 128 ^ k * 128 := Nat.pow_succ ..
    simp only [val]
    omega
theorem val_u64 (ys : List Nat) (k : Nat) (hk : k ≤ 9) (h9 : k = 9 → ys.getD k 0 ≤ 1) : val ys (k + 1) < 18446744073709551616 := by
  rcases Nat.lt_or_ge k 9 with g | g
  · have h := val_lt ys (k + 1)
    have h1 : (128 : Nat) ^ (k + 1) ≤ 128 ^ 9 := Nat.pow_le_pow_right (by omega) (by omega)
    have h3 : (128 : Nat) ^ 9 < 18446744073709551616 := by decide
    omega
  · obtain rfl : k = 9 := by omega
    have h := val_lt ys 9
    have h1 := h9 rfl
    have h3 : (128 : Nat) ^ 9 = 9223372036854775808 := by decide
    simp only [val] at h ⊢
    rw [h3] at h ⊢
    have h2 : ys.getD 9 0 % 128 * 9223372036854775808 ≤ 1 * 9223372036854775808 := Nat.mul_le_mul_right _ (by omega)
    omega
end NumsPlain

theorem rest_step {N n d j v vj : Nat} (h : n * 128 ^ (j + 1) + vj = v) (hj : vj = N + d * 128 ^ j) (hv : v < 18446744073709551616) : n * 128 + d < 18446744073709551616 ∧ (n * 128 + d) * 128 ^ j + N = v := by
  have e1 : n * 128 ^ (j + 1) = n * 128 * 128 ^ j := by rw [Nat.pow_succ, Nat.mul_comm (128 ^ j) 128, Nat.mul_assoc]
  have e2 : (n * 128 + d) * 128 ^ j = n * 128 * 128 ^ j + d * 128 ^ j := Nat.add_mul ..
  have hp : 1 ≤ 128 ^ j := Nat.one_le_pow _ _ (by omega)
  have e3 : n * 128 + d ≤ (n * 128 + d) * 128 ^ j := Nat.le_mul_of_pos_right _ (by omega)
  constructor
  · omega
  · omega

end Go.Proofs.YteggmbfhfoijoaaDoor
