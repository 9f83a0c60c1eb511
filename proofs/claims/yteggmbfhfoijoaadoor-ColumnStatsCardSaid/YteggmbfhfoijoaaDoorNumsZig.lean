/- Signed numbers as unsigned ones and back: package nums' Zig, Zag and the document's. Condition: each number fits its 64 bits. -/
import Derived.Test.YteggmbfhfoijoaaDoorKit
import Derived.Laws.BitsAllLaws
namespace Go.Proofs.YteggmbfhfoijoaaDoor
open Go.RowKit
set_option linter.unusedVariables false

theorem xor_ones_u64 (x : Int) : bits .xor .u64 x 18446744073709551615 = IntKind.u64.wrap (-1 - x) := by
  have h : BitVec.ofInt 64 18446744073709551615 = BitVec.allOnes 64 := by decide
  show IntKind.u64.wrap ((BitVec.ofInt 64 x ^^^ BitVec.ofInt 64 18446744073709551615).toNat : Int) = _
  rw [h, BitVec.xor_allOnes, BitVec.toNat_not, BitVec.toNat_ofInt, IntKind.wrap_u64, IntKind.wrap_u64]
  omega
theorem xor_zero_u64 (x : Int) : bits .xor .u64 x 0 = IntKind.u64.wrap x := by
  show IntKind.u64.wrap ((BitVec.ofInt 64 x ^^^ BitVec.ofInt 64 0).toNat : Int) = _
  have h : BitVec.ofInt 64 0 = 0#64 := by decide
  rw [h, BitVec.xor_zero, BitVec.toNat_ofInt, IntKind.wrap_u64, IntKind.wrap_u64]
  omega
theorem xor_ones_i64 (x : Int) : bits .xor .i64 x (-1) = IntKind.i64.wrap (-1 - x) := by
  have h : BitVec.ofInt 64 (-1) = BitVec.allOnes 64 := by decide
  show IntKind.i64.wrap ((BitVec.ofInt 64 x ^^^ BitVec.ofInt 64 (-1)).toNat : Int) = _
  rw [h, BitVec.xor_allOnes, BitVec.toNat_not, BitVec.toNat_ofInt, IntKind.wrap_i64, IntKind.wrap_i64]
  omega
theorem xor_zero_i64 (x : Int) : bits .xor .i64 x 0 = IntKind.i64.wrap x := by
  show IntKind.i64.wrap ((BitVec.ofInt 64 x ^^^ BitVec.ofInt 64 0).toNat : Int) = _
  have h : BitVec.ofInt 64 0 = 0#64 := by decide
  rw [h, BitVec.xor_zero, BitVec.toNat_ofInt, IntKind.wrap_i64, IntKind.wrap_i64]
  omega

/-- a signed number as an unsigned one -/
def zig (m : Int) : Nat := if m < 0 then (2 * -(m + 1) + 1).toNat else (2 * m).toNat
/-- and back -/
def zag (n : Nat) : Int := if n % 2 = 1 then -((n : Int) / 2) - 1 else (n : Int) / 2
theorem zig_neg {m : Int} (h : m < 0) : (zig m : Int) = 2 * -(m + 1) + 1 := by unfold zig; rw [if_pos h]; omega
theorem zig_pos {m : Int} (h : ¬ m < 0) : (zig m : Int) = 2 * m := by unfold zig; rw [if_neg h]; omega
theorem zag_odd {n : Nat} (h : n % 2 = 1) : zag n = -((n : Int) / 2) - 1 := by unfold zag; rw [if_pos h]
theorem zag_even {n : Nat} (h : ¬ n % 2 = 1) : zag n = (n : Int) / 2 := by unfold zag; rw [if_neg h]
theorem zag_zig (m : Int) : zag (zig m) = m := by
  by_cases h : m < 0
  · have h1 := zig_neg h
    rw [zag_odd (by omega), h1]; omega
  · have h1 := zig_pos h
    rw [zag_even (by omega), h1]; omega
theorem zig_lt {m : Int} (hlo : -9223372036854775808 ≤ m) (hhi : m ≤ 9223372036854775807) : zig m < 18446744073709551616 := by
  by_cases h : m < 0
  · have h1 := zig_neg h; omega
  · have h1 := zig_pos h; omega
theorem zag_lo {n : Nat} (h : n < 18446744073709551616) : -9223372036854775808 ≤ zag n := by
  unfold zag; split <;> omega
theorem zag_hi {n : Nat} (h : n < 18446744073709551616) : zag n ≤ 9223372036854775807 := by
  unfold zag; split <;> omega

theorem zig_any (m : Int) (hlo : -9223372036854775808 ≤ m) (hhi : m ≤ 9223372036854775807) (w : World) :
    Calls Tryd.prog 72 #[.int .i64 m] w fun e w' => e = .returned (.int .u64 (zig m)) ∧ w = w' := by
  by_cases h : m < 0
  · have H : bits BinOp.xor IntKind.u64 (IntKind.u64.wrap (IntKind.u64.wrap m * 2)) (IntKind.u64.wrap (m / 9223372036854775808)) = (zig m : Int) := by
      rw [zig_neg h, show IntKind.u64.wrap (m / 9223372036854775808) = 18446744073709551615 from by rw [IntKind.wrap_u64]; omega, xor_ones_u64]
      simp only [IntKind.wrap_u64]
      omega
    have HH := Lib.hid H
    clear H
    go_enter Tryd.func72, Tryd.ntmps72
    go_wp2
    go_ret
    exact ⟨by rw [HH.out]; rfl, rfl⟩
  · have H : bits BinOp.xor IntKind.u64 (m * 2) (m / 9223372036854775808) = (zig m : Int) := by
      rw [zig_pos h, show m / 9223372036854775808 = 0 from by omega, xor_zero_u64]
      simp only [IntKind.wrap_u64]
      omega
    have HH := Lib.hid H
    clear H
    go_enter Tryd.func72, Tryd.ntmps72
    go_wp2
    go_ret
    exact ⟨by rw [HH.out]; rfl, rfl⟩
theorem zag_any (m : Nat) (hhi : m < 18446744073709551616) (w : World) :
    Calls Tryd.prog 76 #[.int .u64 m] w fun e w' => e = .returned (.int .i64 (zag m)) ∧ w = w' := by
  have H : bits BinOp.xor IntKind.i64 ((m : Int) / 2) (wrap64 (-wrap64 (bits BinOp.and IntKind.u64 (m : Int) 1))) = zag m := by
    have h1 : bits BinOp.and IntKind.u64 (m : Int) 1 = ((m % 2 : Nat) : Int) := by
      have := u64_and_nat m 1 hhi (by omega)
      rw [nat_mask1] at this
      exact this
    rw [h1]
    by_cases h : m % 2 = 1
    · rw [zag_odd h, show wrap64 (-wrap64 ((m % 2 : Nat) : Int)) = -1 from by unfold wrap64; omega, xor_ones_i64, IntKind.wrap_i64]
      omega
    · rw [zag_even h, show wrap64 (-wrap64 ((m % 2 : Nat) : Int)) = 0 from by unfold wrap64; omega, xor_zero_i64, IntKind.wrap_i64]
      omega
  have HH := Lib.hid H
  clear H
  go_enter Tryd.func76, Tryd.ntmps76
  go_wp2
  go_ret
  exact ⟨by rw [HH.out]; rfl, rfl⟩
end Go.Proofs.YteggmbfhfoijoaaDoor
