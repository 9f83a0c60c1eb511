/- Plain facts on bits out of bytes. No Go in sight. -/
import Derived.WalkKit
import Derived.Laws.BitsAllLaws
namespace Go.Proofs.YteggmbfhfoijoaaDoor.BitsPlain
open Go

/-- the bit at a place -/
def bitAt (xs : List Nat) (p : Nat) : Nat := xs.getD (p / 8) 0 / 2 ^ (p % 8) % 2
theorem bitAt_lt (xs : List Nat) (p : Nat) : bitAt xs p < 2 := Nat.mod_lt _ (by omega)

/-- the number of the next n bits -/
def num (xs : List Nat) (p : Nat) : Nat → Nat
  | 0 => 0
  | n + 1 => num xs p n + bitAt xs (p + n) * 2 ^ n
theorem num_lt (xs : List Nat) (p : Nat) : ∀ n, num xs p n < 2 ^ n
  | 0 => by simp [num]
  | n + 1 => by
    have h := num_lt xs p n
    have h1 := bitAt_lt xs (p + n)
    have h2 : bitAt xs (p + n) * 2 ^ n ≤ 1 * 2 ^ n := Nat.mul_le_mul_right _ (by omega)
    have h3 : (2 : Nat) ^ (n + 1) = 2 ^ n * 2 := Nat.pow_succ ..
    simp only [num]
    omega
theorem num_one (xs : List Nat) (p : Nat) : num xs p 1 = bitAt xs p := by simp [num]

theorem pow32 {i : Nat} (h : i < 32) : (2 : Nat) ^ i ≤ 2147483648 := by
  have h1 : (2 : Nat) ^ i ≤ 2 ^ 31 := Nat.pow_le_pow_right (by omega) (by omega)
  have h2 : (2 : Nat) ^ 31 = 2147483648 := by decide
  omega

theorem and_one_u32 (x : Nat) (h : x < 4294967296) : bits .and .u32 (x : Int) 1 = ((x % 2 : Nat) : Int) := by
  have := u32_and_nat x 1 h (by omega)
  rw [nat_mask1] at this
  exact this

theorem or_bit {V i b : Nat} (hV : V < 2 ^ i) (hi : i < 32) (hb : b < 2) : bits .or .u32 (V : Int) (IntKind.u32.wrap ((b : Int) * 2 ^ i)) = ((V + b * 2 ^ i : Nat) : Int) := by
  have hp := pow32 hi
  have h1 : b * 2 ^ i ≤ 1 * 2 ^ i := Nat.mul_le_mul_right _ (by omega)
  have e1 : (b : Int) * 2 ^ i = ((b * 2 ^ i : Nat) : Int) := by push_cast; rfl
  rw [e1, IntKind.wrap_u32', show ((b * 2 ^ i : Nat) : Int) % 4294967296 = ((b * 2 ^ i : Nat) : Int) from by omega, u32_or_nat V (b * 2 ^ i) (by omega) (by omega), Nat.or_comm, nat_join i (b * 2 ^ i) V (Nat.mul_mod_left _ _) hV, Nat.add_comm]

theorem bit_step {V i x s : Nat} (hV : V < 2 ^ i) (hi : i < 32) (hx : x < 256) :
    bits .or .u32 (V : Int) (bits .and .u32 ((x : Int) / 2 ^ s) 1 * 2 ^ i % 4294967296) = ((V + x / 2 ^ s % 2 * 2 ^ i : Nat) : Int) := by
  have e1 : (x : Int) / 2 ^ s = ((x / 2 ^ s : Nat) : Int) := by push_cast; rfl
  have h1 : x / 2 ^ s ≤ x := Nat.div_le_self _ _
  rw [e1, and_one_u32 _ (by omega), ← IntKind.wrap_u32', or_bit hV hi (Nat.mod_lt _ (by omega))]
end Go.Proofs.YteggmbfhfoijoaaDoor.BitsPlain
