/- Plain facts on the checksum's register: a bit at a time, a nibble at a time. No Go in sight. -/
import Derived.WalkKit
namespace Go.Proofs.YteggmbfhfoijoaaDoor.CrcPlain
open Go

/-- the register behind one shift -/
def sb (c : Nat) : Nat := (c / 2) ^^^ (if c % 2 = 1 then 3988292384 else 0)
/-- behind n shifts -/
def sbs : Nat → Nat → Nat
  | 0, c => c
  | n + 1, c => sbs n (sb c)

theorem xor_half (a b : Nat) : (a ^^^ b) / 2 = (a / 2) ^^^ (b / 2) := by
  simpa [Nat.shiftRight_eq_div_pow] using (Nat.shiftRight_xor_distrib (a := a) (b := b) (i := 1))
theorem xor_odd (a b : Nat) : (a ^^^ b) % 2 = (a % 2 + b % 2) % 2 := by
  have h := Nat.testBit_xor a b 0
  simp only [Nat.testBit_zero] at h
  generalize a ^^^ b = x at h ⊢
  rcases Nat.mod_two_eq_zero_or_one a with ha | ha <;> rcases Nat.mod_two_eq_zero_or_one b with hb | hb <;> rw [ha, hb] at h <;> simp at h <;> omega
theorem xor_nought {a b : Nat} (h : a ^^^ b = 0) : a = b := by
  have e : (a ^^^ b) ^^^ b = a := by rw [Nat.xor_assoc, Nat.xor_self, Nat.xor_zero]
  rw [h, Nat.zero_xor] at e
  exact e.symm
theorem sb_xor (a b : Nat) : sb (a ^^^ b) = sb a ^^^ sb b := by
  unfold sb
  rw [xor_half, xor_odd]
  rcases Nat.mod_two_eq_zero_or_one a with ha | ha <;> rcases Nat.mod_two_eq_zero_or_one b with hb | hb <;> simp only [ha, hb]
  · simp
  · simp [Nat.xor_assoc]
  · simp
    rw [Nat.xor_assoc, Nat.xor_comm (b / 2), ← Nat.xor_assoc]
  · have e : (a / 2 ^^^ 3988292384) ^^^ (b / 2 ^^^ 3988292384) = a / 2 ^^^ b / 2 := by
      rw [Nat.xor_assoc, ← Nat.xor_assoc 3988292384, Nat.xor_comm 3988292384 (b / 2), Nat.xor_assoc (b / 2), Nat.xor_self, Nat.xor_zero]
    simp [e]
theorem sbs_xor (n : Nat) : ∀ a b, sbs n (a ^^^ b) = sbs n a ^^^ sbs n b := by
  induction n with
  | zero => intro a b; rfl
  | succ n ih => intro a b; simp only [sbs, sb_xor, ih]
theorem sb_even (q : Nat) : sb (2 * q) = q := by
  unfold sb
  rw [if_neg (by omega), Nat.xor_zero]; omega
theorem sbs_pow (n : Nat) : ∀ q, sbs n (2 ^ n * q) = q := by
  induction n with
  | zero => intro q; simp [sbs]
  | succ n ih =>
    intro q
    have e : 2 ^ (n + 1) * q = 2 * (2 ^ n * q) := by rw [Nat.pow_succ, Nat.mul_comm (2 ^ n) 2, Nat.mul_assoc]
    rw [sbs, e, sb_even, ih]
theorem sb_lt {c : Nat} (h : c < 4294967296) : sb c < 4294967296 := by
  unfold sb
  have h1 : c / 2 < 2 ^ 32 := by omega
  split
  · exact Nat.xor_lt_two_pow (n := 32) h1 (by decide)
  · exact Nat.xor_lt_two_pow (n := 32) h1 (by decide)
/-- the table of sixteen -/
def nib : List Nat := [0, 498536548, 997073096, 651767980, 1994146192, 1802195444, 1303535960, 1342533948, 3988292384, 4027552580, 3604390888, 3412177804, 2607071920, 2262029012, 2685067896, 3183342108]
theorem nib_ok : ∀ r, r < 16 → sbs 4 r = nib.getD r 0 := by decide
theorem four (c : Nat) : sbs 4 c = (c / 16) ^^^ nib.getD (c % 16) 0 := by
  have e : c = (2 ^ 4 * (c / 16)) ^^^ (c % 16) := by
    apply Nat.eq_of_testBit_eq
    intro i
    rw [Nat.testBit_xor, Nat.testBit_two_pow_mul, show c / 16 = c / 2 ^ 4 from rfl, Nat.testBit_div_two_pow, show c % 16 = c % 2 ^ 4 from rfl, Nat.testBit_mod_two_pow]
    rcases Nat.lt_or_ge i 4 with g | g
    · have h1 : decide (i ≥ 4) = false := by simp; omega
      have h2 : decide (i < 4) = true := by simp; omega
      rw [h1, h2]; simp
    · have h1 : decide (i ≥ 4) = true := by simp; omega
      have h2 : decide (i < 4) = false := by simp; omega
      rw [h1, h2]
      have h3 : i - 4 + 4 = i := by omega
      simp [h3]
  conv => lhs; rw [e]
  rw [sbs_xor, sbs_pow, nib_ok _ (Nat.mod_lt _ (by omega))]
/-- a register that isn't nought stays so -/
theorem sb_zero {c : Nat} (h : c < 4294967296) (h0 : sb c = 0) : c = 0 := by
  unfold sb at h0
  have h1 := xor_nought h0
  split at h1
  · omega
  · omega
theorem sbs_zero (n : Nat) : ∀ c, c < 4294967296 → sbs n c = 0 → c = 0 := by
  induction n with
  | zero => intro c _ h; exact h
  | succ n ih => intro c hc h; exact sb_zero hc (ih _ (sb_lt hc) h)
theorem sbs_lt (n : Nat) : ∀ c, c < 4294967296 → sbs n c < 4294967296 := by
  induction n with
  | zero => intro c h; exact h
  | succ n ih => intro c h; exact ih _ (sb_lt h)
theorem sbs_add (m : Nat) : ∀ (n c : Nat), sbs (n + m) c = sbs m (sbs n c)
  | 0, c => by rw [Nat.zero_add]; rfl
  | n + 1, c => by
    rw [show n + 1 + m = (n + m) + 1 from by omega]
    simp only [sbs]
    exact sbs_add m n (sb c)
/-- a register that differs goes on to differ -/
theorem sbs_inj {n a b : Nat} (ha : a < 4294967296) (hb : b < 4294967296) (h : sbs n a = sbs n b) : a = b := by
  apply xor_nought
  apply sbs_zero n _ (Nat.xor_lt_two_pow (n := 32) ha hb)
  rw [sbs_xor, h, Nat.xor_self]
theorem split_xor (n c : Nat) : c = (2 ^ n * (c / 2 ^ n)) ^^^ (c % 2 ^ n) := by
  apply Nat.eq_of_testBit_eq
  intro i
  rw [Nat.testBit_xor, Nat.testBit_two_pow_mul, Nat.testBit_div_two_pow, Nat.testBit_mod_two_pow]
  rcases Nat.lt_or_ge i n with g | g
  · have h1 : decide (i ≥ n) = false := by simp; omega
    have h2 : decide (i < n) = true := by simp; omega
    rw [h1, h2]; simp
  · have h1 : decide (i ≥ n) = true := by simp; omega
    have h2 : decide (i < n) = false := by simp; omega
    rw [h1, h2]
    have h3 : i - n + n = i := by omega
    simp [h3]

/-- the register behind bytes -/
def reg : Nat → List Nat → Nat
  | c, [] => c
  | c, x :: xs => reg (sbs 8 (c ^^^ x)) xs
/-- bytes as one number, the lowest first -/
def val : List Nat → Nat
  | [] => 0
  | x :: xs => x + 256 * val xs
theorem val_cons {x : Nat} (h : x < 256) (v : Nat) : x + 256 * v = x ^^^ (256 * v) := by
  have e := split_xor 8 (x + 256 * v)
  have h1 : (x + 256 * v) / 2 ^ 8 = v := by omega
  have h2 : (x + 256 * v) % 2 ^ 8 = x := by omega
  rw [h1, h2] at e
  rw [Nat.xor_comm x]
  exact e
/-- the register behind bytes is that number, shifted through -/
theorem reg_val : ∀ (xs : List Nat) (c : Nat), (∀ x ∈ xs, x < 256) → reg c xs = sbs (8 * xs.length) (c ^^^ val xs)
  | [], c, _ => by simp [reg, val, sbs]
  | x :: xs, c, h => by
    have hx : x < 256 := h x (List.mem_cons_self)
    rw [reg, reg_val xs _ (fun y hy => h y (List.mem_cons_of_mem _ hy)), val, val_cons hx, List.length_cons, show 8 * (xs.length + 1) = 8 + 8 * xs.length from by omega, sbs_add]
    congr 1
    rw [← Nat.xor_assoc, sbs_xor 8 (c ^^^ x)]
    congr 1
    exact (sbs_pow 8 (val xs)).symm
/-- a byte's step, a nibble at a time -/
theorem step_nib (c x : Nat) : sbs 8 (c ^^^ x) = (((c ^^^ x) / 16) ^^^ nib.getD ((c ^^^ x) % 16) 0) / 16 ^^^ nib.getD ((((c ^^^ x) / 16) ^^^ nib.getD ((c ^^^ x) % 16) 0) % 16) 0 := by
  rw [show 8 = 4 + 4 from rfl, sbs_add, four, four]
/-- what is turned within 32 bits in a row turns the register -/
theorem turned (N at_ W : Nat) (hW : W < 4294967296) (h0 : W ≠ 0) (hat : at_ ≤ N) (c : Nat) : sbs N (c ^^^ (2 ^ at_ * W)) ≠ sbs N c := by
  intro h
  rw [sbs_xor] at h
  have h1 : sbs N (2 ^ at_ * W) = 0 := by
    have e : (sbs N c ^^^ sbs N (2 ^ at_ * W)) ^^^ sbs N c = 0 := by rw [h, Nat.xor_self]
    rw [Nat.xor_comm (sbs N c), Nat.xor_assoc, Nat.xor_self, Nat.xor_zero] at e
    exact e
  rw [show N = at_ + (N - at_) from by omega, sbs_add, sbs_pow] at h1
  exact h0 (sbs_zero _ _ hW h1)
end Go.Proofs.YteggmbfhfoijoaaDoor.CrcPlain
