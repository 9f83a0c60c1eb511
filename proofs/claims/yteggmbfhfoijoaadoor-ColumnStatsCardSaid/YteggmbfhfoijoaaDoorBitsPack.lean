/- Plain facts on bits into bytes. No Go in sight. -/
import Derived.Test.YteggmbfhfoijoaaDoorBitsPlain
namespace Go.Proofs.YteggmbfhfoijoaaDoor.BitsPlain
open Go

def bsum (l : List Nat) (p : Nat) : Nat → Nat
  | 0 => 0
  | k + 1 => bsum l p k + l.getD (p + k) 0 * 2 ^ k
/-- bits as bytes, the lowest first, noughts behind the last -/
def pack (l : List Nat) : List Nat := (List.range ((l.length + 7) / 8)).map fun j => bsum l (8 * j) 8

theorem pack_length (l : List Nat) : (pack l).length = (l.length + 7) / 8 := by simp [pack]

def Bin (l : List Nat) : Prop := ∀ x ∈ l, x < 2
theorem Bin.get {l : List Nat} (h : Bin l) (p : Nat) : l.getD p 0 < 2 := by
  rcases Nat.lt_or_ge p l.length with g | g
  · have : l.getD p 0 = l[p] := by simp [g]
    rw [this]; exact h _ (List.getElem_mem g)
  · have : l.getD p 0 = 0 := by simp [g]
    omega
theorem Bin.snoc {l : List Nat} (h : Bin l) {b : Nat} (hb : b < 2) : Bin (l ++ [b]) := by
  intro x hx
  rcases List.mem_append.1 hx with g | g
  · exact h x g
  · simp at g; omega
theorem Bin.app {l r : List Nat} (h : Bin l) (hr : Bin r) : Bin (l ++ r) := by
  intro x hx
  rcases List.mem_append.1 hx with g | g
  · exact h x g
  · exact hr x g

theorem bsum_lt {l : List Nat} (h : Bin l) (p : Nat) : ∀ k, bsum l p k < 2 ^ k
  | 0 => by simp [bsum]
  | k + 1 => by
    have h1 := bsum_lt h p k
    have h2 := h.get (p + k)
    have h3 : l.getD (p + k) 0 * 2 ^ k ≤ 1 * 2 ^ k := Nat.mul_le_mul_right _ (by omega)
    have h4 : (2 : Nat) ^ (k + 1) = 2 ^ k * 2 := Nat.pow_succ ..
    simp only [bsum]
    omega
theorem bsum_end (l : List Nat) (p : Nat) : ∀ k, l.length ≤ p + k → ∀ m, bsum l p (k + m) = bsum l p k
  | k, h, 0 => rfl
  | k, h, m + 1 => by
    have h1 := bsum_end l p k h m
    have h2 : l.getD (p + (k + m)) 0 = 0 := by simp [show l.length ≤ p + (k + m) by omega]
    show bsum l p (k + m) + l.getD (p + (k + m)) 0 * 2 ^ (k + m) = _
    rw [h1, h2, Nat.zero_mul, Nat.add_zero]
theorem bsum_snoc (l : List Nat) (b p : Nat) : ∀ k, bsum (l ++ [b]) p k = bsum l p k + (if p ≤ l.length ∧ l.length < p + k then b * 2 ^ (l.length - p) else 0)
  | 0 => by rw [if_neg (by omega)]; rfl
  | k + 1 => by
    have h1 := bsum_snoc l b p k
    simp only [bsum]
    rw [h1]
    rcases Nat.lt_trichotomy (p + k) l.length with g | g | g
    · have e : (l ++ [b]).getD (p + k) 0 = l.getD (p + k) 0 := by simp [List.getElem?_append_left g]
      rw [e, if_neg (by omega), if_neg (by omega)]; omega
    · have e : (l ++ [b]).getD (p + k) 0 = b := by rw [g]; simp
      have e2 : l.getD (p + k) 0 = 0 := by simp [show l.length ≤ p + k by omega]
      rw [e, e2, if_neg (by omega), if_pos (by omega), show l.length - p = k by omega]
      omega
    · have e : (l ++ [b]).getD (p + k) 0 = 0 := by simp [show l.length + 1 ≤ p + k by omega]
      have e2 : l.getD (p + k) 0 = 0 := by simp [show l.length ≤ p + k by omega]
      rw [e, e2]
      by_cases hp : p ≤ l.length
      · rw [if_pos (by omega), if_pos (by omega)]; omega
      · rw [if_neg (by omega), if_neg (by omega)]; omega

theorem pack_get (l : List Nat) (j : Nat) : (pack l).getD j 0 = bsum l (8 * j) 8 := by
  rcases Nat.lt_or_ge j ((l.length + 7) / 8) with g | g
  · simp [pack, g]
  · have e : (pack l).getD j 0 = 0 := by simp [pack, g]
    have h := bsum_end l (8 * j) 0 (by omega) 8
    rw [e]
    simpa [bsum] using h.symm
theorem pack_byte {l : List Nat} (h : Bin l) : ∀ x ∈ pack l, x < 256 := by
  intro x hx
  simp only [pack, List.mem_map] at hx
  obtain ⟨j, _, rfl⟩ := hx
  exact bsum_lt h _ 8

theorem ext_getD {l r : List Nat} (hl : l.length = r.length) (h : ∀ j, j < l.length → l.getD j 0 = r.getD j 0) : l = r := by
  apply List.ext_getElem hl
  intro j h1 h2
  have := h j h1
  simpa [h1, h2] using this

/-- one bit more, at the beginning of a byte -/
theorem pack_new {l : List Nat} (b : Nat) (h8 : l.length % 8 = 0) : pack (l ++ [b]) = pack l ++ [b] := by
  apply ext_getD
  · simp [pack_length]; omega
  · intro j hj
    rw [pack_length] at hj
    simp only [List.length_append, List.length_cons, List.length_nil] at hj
    rw [pack_get, bsum_snoc]
    rcases Nat.lt_or_ge j (l.length / 8) with g | g
    · rw [if_neg (by omega)]
      have e : (pack l ++ [b]).getD j 0 = (pack l).getD j 0 := by simp [List.getElem?_append_left (show j < (pack l).length by rw [pack_length]; omega)]
      rw [e, pack_get]; rfl
    · have hj2 : j = (pack l).length := by rw [pack_length]; omega
      have e : (pack l ++ [b]).getD j 0 = b := by rw [hj2]; simp
      have h0 := bsum_end l (8 * j) 0 (by rw [hj2, pack_length]; omega) 8
      have h1 : bsum l (8 * j) 8 = 0 := by simpa [bsum] using h0
      have hjl : 8 * j = l.length := by rw [hj2, pack_length]; omega
      rw [e, h1, if_pos (by omega), hjl]
      simp
/-- one bit more, within a byte -/
theorem pack_old {l : List Nat} (b : Nat) (h8 : l.length % 8 ≠ 0) : pack (l ++ [b]) = (pack l).set (l.length / 8) ((pack l).getD (l.length / 8) 0 + b * 2 ^ (l.length % 8)) := by
  apply ext_getD
  · simp [pack_length]; omega
  · intro j hj
    rw [pack_length] at hj
    simp only [List.length_append, List.length_cons, List.length_nil] at hj
    rw [pack_get, bsum_snoc]
    rcases Nat.lt_or_ge j (l.length / 8) with g | g
    · rw [if_neg (by omega)]
      have e : ((pack l).set (l.length / 8) ((pack l).getD (l.length / 8) 0 + b * 2 ^ (l.length % 8))).getD j 0 = (pack l).getD j 0 := by
        simp [show ¬ l.length / 8 = j by omega]
      rw [e, pack_get]; rfl
    · have hj2 : j = l.length / 8 := by omega
      subst hj2
      have e : ((pack l).set (l.length / 8) ((pack l).getD (l.length / 8) 0 + b * 2 ^ (l.length % 8))).getD (l.length / 8) 0 = (pack l).getD (l.length / 8) 0 + b * 2 ^ (l.length % 8) := by
        have : l.length / 8 < (pack l).length := by rw [pack_length]; omega
        simp [this]
      rw [e, pack_get, if_pos (by omega), show l.length - 8 * (l.length / 8) = l.length % 8 by omega]
/-- what stands in the last byte -/
theorem pack_last {l : List Nat} (h : Bin l) : (pack l).getD (l.length / 8) 0 < 2 ^ (l.length % 8) := by
  rw [pack_get]
  have h1 := bsum_end l (8 * (l.length / 8)) (l.length % 8) (by omega) (8 - l.length % 8)
  rw [show l.length % 8 + (8 - l.length % 8) = 8 by omega] at h1
  rw [h1]
  exact bsum_lt h _ _

theorem bsum_bit {l : List Nat} (h : Bin l) (q : Nat) : ∀ (k t : Nat), t < k → bsum l q k / 2 ^ t % 2 = l.getD (q + t) 0
  | k + 1, t, ht => by
    have hb := h.get (q + k)
    have hs := bsum_lt h q k
    have hp : 0 < 2 ^ t := Nat.pow_pos (by omega)
    simp only [bsum]
    rcases Nat.lt_or_ge t k with g | g
    · have e : (2 : Nat) ^ k = 2 ^ t * (2 * 2 ^ (k - t - 1)) := by
        rw [← Nat.pow_succ', ← Nat.pow_add]; congr 1; omega
      rw [e, ← Nat.mul_assoc, Nat.mul_comm (l.getD (q + k) 0) (2 ^ t), Nat.mul_assoc, Nat.add_mul_div_left _ _ hp, ← bsum_bit h q k t g]
      have e2 : l.getD (q + k) 0 * (2 * 2 ^ (k - t - 1)) = 2 * (l.getD (q + k) 0 * 2 ^ (k - t - 1)) := by
        rw [← Nat.mul_assoc, Nat.mul_comm (l.getD (q + k) 0) 2, Nat.mul_assoc]
      omega
    · have hk : t = k := by omega
      subst hk
      rw [Nat.add_mul_div_right _ _ hp, Nat.div_eq_of_lt hs]
      omega
theorem bitAt_pack {l : List Nat} (h : Bin l) (p : Nat) : bitAt (pack l) p = l.getD p 0 := by
  unfold bitAt
  rw [pack_get, bsum_bit h _ 8 (p % 8) (by omega)]
  congr 1
  omega

/-- a number's bits, the lowest first -/
def bitsOf (v n : Nat) : List Nat := (List.range n).map fun i => v / 2 ^ i % 2
theorem bitsOf_succ (v n : Nat) : bitsOf v (n + 1) = bitsOf v n ++ [v / 2 ^ n % 2] := by simp [bitsOf, List.range_succ]
theorem bitsOf_length (v n : Nat) : (bitsOf v n).length = n := by simp [bitsOf]
theorem bitsOf_bin (v n : Nat) : Bin (bitsOf v n) := by
  intro x hx
  simp only [bitsOf, List.mem_map] at hx
  obtain ⟨i, _, rfl⟩ := hx
  exact Nat.mod_lt _ (by omega)
/-- a code's bits, the highest first -/
def codeOf (v n : Nat) (k : Nat) : List Nat := (List.range k).map fun i => v / 2 ^ (n - 1 - i) % 2
theorem codeOf_succ (v n k : Nat) : codeOf v n (k + 1) = codeOf v n k ++ [v / 2 ^ (n - 1 - k) % 2] := by simp [codeOf, List.range_succ]
theorem codeOf_length (v n k : Nat) : (codeOf v n k).length = k := by simp [codeOf]
theorem codeOf_bin (v n k : Nat) : Bin (codeOf v n k) := by
  intro x hx
  simp only [codeOf, List.mem_map] at hx
  obtain ⟨i, _, rfl⟩ := hx
  exact Nat.mod_lt _ (by omega)

theorem or_byte {x b s : Nat} (hx : x < 2 ^ s) (hs : s < 8) (hb : b < 2) :
    bits .or .u8 (x : Int) ((b : Int) * 2 ^ s) = ((x + b * 2 ^ s : Nat) : Int) := by
  have hp : (2 : Nat) ^ s ≤ 2 ^ 7 := Nat.pow_le_pow_right (by omega) (by omega)
  have h7 : (2 : Nat) ^ 7 = 128 := by decide
  have h1 : b * 2 ^ s ≤ 1 * 2 ^ s := Nat.mul_le_mul_right _ (by omega)
  have e1 : (b : Int) * 2 ^ s = ((b * 2 ^ s : Nat) : Int) := by push_cast; rfl
  rw [e1, u8_or_nat x (b * 2 ^ s) (by omega) (by omega), Nat.or_comm, nat_join s (b * 2 ^ s) x (Nat.mul_mod_left _ _) hx, Nat.add_comm]
end Go.Proofs.YteggmbfhfoijoaaDoor.BitsPlain
