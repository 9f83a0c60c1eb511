/- Plain facts for CrcTurned: a sealed text's register; bits turned in bytes are bits turned in their number. -/
import Derived.Test.YteggmbfhfoijoaaDoorCrcOpen
namespace Go.Proofs.YteggmbfhfoijoaaDoor
open Go.RowKit CrcPlain
set_option linter.unusedVariables false

theorem val_le4 (s : Nat) (hs : s < 4294967296) : val (le s 4) = s := by
  have h4 : s / 16777216 % 256 = s / 16777216 := Nat.mod_eq_of_lt (by omega)
  have hl : le s 4 = [s % 256, s / 256 % 256, s / 65536 % 256, s / 16777216] := by simp [le, List.range_succ, h4]
  rw [hl]
  simp only [val]
  omega

theorem reg_sealed (l : List Nat) (h : ∀ x ∈ l, x < 256) : reg 4294967295 (sealed l) = sbs 32 4294967295 := by
  have hc := crcN_lt l h
  unfold sealed
  rw [reg_append, reg_val (le (crcN l) 4) _ (le_byte _ 4), val_le4 _ hc, le_len]
  congr 1
  unfold crcN
  rw [Nat.xor_comm 4294967295, ← Nat.xor_assoc, Nat.xor_self, Nat.zero_xor]

theorem mul_xor (a x y : Nat) : 2 ^ a * (x ^^^ y) = (2 ^ a * x) ^^^ (2 ^ a * y) := by
  apply Nat.eq_of_testBit_eq
  intro i
  rw [Nat.testBit_xor, Nat.testBit_two_pow_mul, Nat.testBit_two_pow_mul, Nat.testBit_two_pow_mul, Nat.testBit_xor]
  cases decide (i ≥ a) <;> simp

/-- a bit turned in a byte -/
theorem val_set : ∀ (xs : List Nat) (j r : Nat), (∀ x ∈ xs, x < 256) → j < xs.length → r < 8 → val (xs.set j (xs.getD j 0 ^^^ 2 ^ r)) = val xs ^^^ 2 ^ (8 * j + r)
  | [], j, r, _, hj, _ => by simp at hj
  | x :: xs, 0, r, hb, _, hr => by
    have hx : x < 256 := hb x List.mem_cons_self
    have h2 : 2 ^ r < 256 := Nat.lt_of_lt_of_le (Nat.pow_lt_pow_right (by omega) hr) (by decide)
    have hxr : x ^^^ 2 ^ r < 256 := Nat.xor_lt_two_pow (n := 8) hx h2
    simp only [List.set_cons_zero, List.getD_cons_zero, val, Nat.mul_zero, Nat.zero_add]
    rw [val_cons hxr, val_cons hx, Nat.xor_assoc, Nat.xor_comm (2 ^ r), ← Nat.xor_assoc]
  | x :: xs, j + 1, r, hb, hj, hr => by
    have hx : x < 256 := hb x List.mem_cons_self
    have ih := val_set xs j r (fun y hy => hb y (List.mem_cons_of_mem _ hy)) (by simpa using hj) hr
    simp only [List.set_cons_succ, List.getD_cons_succ, val]
    rw [ih, val_cons hx, val_cons hx, Nat.xor_assoc]
    congr 1
    rw [show (256 : Nat) = 2 ^ 8 from rfl, mul_xor, ← Nat.pow_add, show 8 + (8 * j + r) = 8 * (j + 1) + r from by omega]

theorem set_byte (xs : List Nat) (j y : Nat) (h : ∀ x ∈ xs, x < 256) (hy : y < 256) : ∀ x ∈ xs.set j y, x < 256 := by
  intro x hx
  rcases List.mem_or_eq_of_mem_set hx with g | g
  · exact h x g
  · exact g ▸ hy

/-- a turned text is not sealed -/
theorem turned_open (l ys : List Nat) (at_ W : Nat) (hl : ∀ x ∈ l, x < 256) (hy : ∀ x ∈ ys, x < 256) (hlen : ys.length = (sealed l).length) (hW : W < 4294967296) (h0 : W ≠ 0) (hat : at_ ≤ 8 * ys.length)
    (hv : val ys = val (sealed l) ^^^ (2 ^ at_ * W)) : op ys = ([], 6) := by
  have h4 : ¬ ys.length < 4 := by rw [hlen]; simp [sealed, le_len]
  have hsb : ∀ x ∈ sealed l, x < 256 := by
    intro x hx
    rcases List.mem_append.1 hx with g | g
    · exact hl x g
    · exact le_byte _ 4 x g
  unfold op
  rw [if_neg h4]
  have hne : ¬ sealed (ys.take (ys.length - 4)) = ys := by
    intro e
    have h1 := reg_sealed (ys.take (ys.length - 4)) (fun x hx => hy x (List.mem_of_mem_take hx))
    rw [e, ← reg_sealed l hl, reg_val ys _ hy, reg_val (sealed l) _ hsb, ← hlen, hv, ← Nat.xor_assoc] at h1
    exact turned (8 * ys.length) at_ W hW h0 hat _ h1
  rw [if_neg hne]

/-- one more bit of what is turned -/
theorem turn_succ_one (T k at_ v : Nat) (h : T / 2 ^ k % 2 = 1) : (v ^^^ (2 ^ at_ * (T % 2 ^ k))) ^^^ 2 ^ (at_ + k) = v ^^^ (2 ^ at_ * (T % 2 ^ (k + 1))) := by
  rw [Nat.xor_assoc]
  congr 1
  rw [Nat.pow_add]
  have e : T % 2 ^ (k + 1) = (T % 2 ^ k) ^^^ 2 ^ k := by
    apply Nat.eq_of_testBit_eq
    intro i
    rw [Nat.testBit_mod_two_pow, Nat.testBit_xor, Nat.testBit_mod_two_pow, Nat.testBit_two_pow]
    have hk : T.testBit k = true := by rw [Nat.testBit_eq_decide_div_mod_eq, h]; rfl
    rcases Nat.lt_trichotomy i k with g | g | g
    · have a1 : decide (i < k + 1) = true := by simp; omega
      have a2 : decide (i < k) = true := by simp; omega
      have a3 : decide (k = i) = false := by simp; omega
      rw [a1, a2, a3]; simp
    · subst g; simp [hk]
    · have a1 : decide (i < k + 1) = false := by simp; omega
      have a2 : decide (i < k) = false := by simp; omega
      have a3 : decide (k = i) = false := by simp; omega
      rw [a1, a2, a3]; simp
  rw [e, mul_xor]

theorem turn_succ_zero (T k : Nat) (h : T / 2 ^ k % 2 ≠ 1) : T % 2 ^ (k + 1) = T % 2 ^ k := by
  have h0 : T / 2 ^ k % 2 = 0 := by omega
  rw [Nat.pow_succ, Nat.mod_mul, h0, Nat.mul_zero, Nat.add_zero]
theorem turn_succ_ne (T k : Nat) (h : T / 2 ^ k % 2 = 1) : T % 2 ^ (k + 1) ≠ 0 := by
  rw [Nat.pow_succ, Nat.mod_mul, h, Nat.mul_one]
  have := Nat.two_pow_pos k
  omega
end Go.Proofs.YteggmbfhfoijoaaDoor
