/- The form Stored of at most 65,535 bytes, byte by byte. -/
import Derived.Test.YtachikilcfdngaaSqStor
namespace Go.Proofs.Ytachikilcfdngaa
open Go.RowKit BitsPlain
set_option linter.unusedVariables false

theorem bsum_left (A l : List Nat) (p : Nat) : ∀ k, p + k ≤ A.length → bsum (A ++ l) p k = bsum A p k
  | 0, _ => rfl
  | k + 1, h => by
    have ih := bsum_left A l p k (by omega)
    have e : (A ++ l).getD (p + k) 0 = A.getD (p + k) 0 := by simp [List.getElem?_append_left (show p + k < A.length by omega)]
    simp only [bsum]
    rw [ih, e]
theorem bsum_right (A l : List Nat) (p : Nat) : ∀ k, bsum (A ++ l) (A.length + p) k = bsum l p k
  | 0 => rfl
  | k + 1 => by
    have ih := bsum_right A l p k
    have e : (A ++ l).getD (A.length + p + k) 0 = l.getD (p + k) 0 := by
      rw [List.getD_eq_getElem?_getD, List.getD_eq_getElem?_getD, List.getElem?_append_right (by omega), show A.length + p + k - A.length = p + k from by omega]
    simp only [bsum]
    rw [ih, e]
theorem pack_app {A : List Nat} (h : A.length % 8 = 0) (l : List Nat) : pack (A ++ l) = pack A ++ pack l := by
  refine ext_getD (by simp only [pack_length, List.length_append]; omega) (fun j hj => ?_)
  rw [pack_get]
  rcases Nat.lt_or_ge j (pack A).length with g | g
  · have e : (pack A ++ pack l).getD j 0 = (pack A).getD j 0 := by simp [List.getElem?_append_left g]
    rw [pack_length] at g
    rw [e, pack_get, bsum_left A l (8 * j) 8 (by omega)]
  · obtain ⟨i, rfl⟩ : ∃ i, j = (pack A).length + i := ⟨j - (pack A).length, by omega⟩
    have e : (pack A ++ pack l).getD ((pack A).length + i) 0 = (pack l).getD i 0 := by
      rw [List.getD_eq_getElem?_getD, List.getD_eq_getElem?_getD, List.getElem?_append_right (by omega), show (pack A).length + i - (pack A).length = i from by omega]
    have e2 : 8 * ((pack A).length + i) = A.length + 8 * i := by rw [pack_length]; omega
    rw [e, pack_get, e2, bsum_right]
theorem pack_one : ∀ x, x < 256 → pack (bitsOf x 8) = [x] := by decide +kernel
theorem pack_flat8 : ∀ {xs : List Nat}, (∀ x ∈ xs, x < 256) → pack (xs.flatMap fun x => bitsOf x 8) = xs
  | [], _ => by decide
  | x :: r, h => by
    rw [List.flatMap_cons, pack_app (by rw [bitsOf_length]), pack_one x (h x (by simp)), pack_flat8 (fun y hy => h y (by simp [hy]))]
    rfl
theorem bitsOf_add (v a b : Nat) : bitsOf v (a + b) = bitsOf v a ++ bitsOf (v / 2 ^ a) b := by
  simp only [bitsOf, List.range_add, List.map_append, List.map_map]
  congr 1
  refine List.map_congr_left (fun i _ => ?_)
  simp only [Function.comp]
  rw [Nat.div_div_eq_div_mul, ← Nat.pow_add]
theorem bitsOf_mod (v : Nat) : bitsOf (v % 256) 8 = bitsOf v 8 := by
  simp only [bitsOf, List.range, List.range.loop, List.map_cons, List.map_nil, List.cons.injEq, and_true]
  omega
theorem bits16 (v : Nat) : bitsOf v 16 = bitsOf (v % 256) 8 ++ bitsOf (v / 256 % 256) 8 := by
  rw [show (16 : Nat) = 8 + 8 from rfl, bitsOf_add, bitsOf_mod, bitsOf_mod]
/-- the stored form -/
def stP (b : List Nat) : List Nat := [1, b.length % 256, b.length / 256, 255 - b.length % 256, 255 - b.length / 256] ++ b
theorem stor_bytes {b : List Nat} (hb : ∀ x ∈ b, x < 256) (hn : b.length ≤ 65535) : pack (storB b) = stP b := by
  have e : storB b = (stP b).flatMap fun x => bitsOf x 8 := by
    unfold storB
    simp only [storF]
    rw [if_pos hn]
    unfold pieceB pieceH
    rw [show alg ([] ++ bitsOf 1 1 ++ bitsOf 0 2) = bitsOf 1 8 from by decide, bits16 b.length, bits16 (4294967295 - b.length)]
    rw [show b.length / 256 % 256 = b.length / 256 from by omega, show (4294967295 - b.length) % 256 = 255 - b.length % 256 from by omega, show (4294967295 - b.length) / 256 % 256 = 255 - b.length / 256 from by omega]
    simp [stP, List.flatMap_cons]
  rw [e, pack_flat8]
  intro x hx
  unfold stP at hx
  rcases List.mem_append.1 hx with h | h
  · simp only [List.mem_cons, List.not_mem_nil, or_false] at h
    omega
  · exact hb x h
theorem stP_len (b : List Nat) : (stP b).length = b.length + 5 := by simp [stP]
end Go.Proofs.Ytachikilcfdngaa
