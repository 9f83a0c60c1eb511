/- Texts put together by packtpl2.py: InfStPlain. -/
import Derived.Test.YtpbijdoemdoijaaGreatDoorPkCa28
section PkCa29_0
/- What inflate's tree says of stored blocks, plainly. -/
namespace Go.Proofs.YtpbijdoemdoijaaGreatDoor
open Go.RowKit PrefPlain BitsPlain InfPlain
set_option linter.unusedVariables false

namespace StPlain
theorem bitAt_8 (xs : List Nat) (k j : Nat) (hj : j < 8) : bitAt xs (8 * k + j) = xs.getD k 0 / 2 ^ j % 2 := by
  unfold bitAt; rw [show (8 * k + j) / 8 = k from by omega, show (8 * k + j) % 8 = j from by omega]
theorem num_add (xs : List Nat) (p a : Nat) : ∀ b, num xs p (a + b) = num xs p a + num xs (p + a) b * 2 ^ a
  | 0 => by simp [num]
  | b + 1 => by
    rw [← Nat.add_assoc, num, num, num_add xs p a b, Nat.add_mul, Nat.mul_assoc, ← Nat.pow_add, Nat.add_comm b a, Nat.add_assoc p a b]
    omega
theorem num_8 (xs : List Nat) (k : Nat) (h : xs.getD k 0 < 256) : num xs (8 * k) 8 = xs.getD k 0 := by
  have h0 := bitAt_8 xs k 0 (by omega)
  have h1 := bitAt_8 xs k 1 (by omega)
  have h2 := bitAt_8 xs k 2 (by omega)
  have h3 := bitAt_8 xs k 3 (by omega)
  have h4 := bitAt_8 xs k 4 (by omega)
  have h5 := bitAt_8 xs k 5 (by omega)
  have h6 := bitAt_8 xs k 6 (by omega)
  have h7 := bitAt_8 xs k 7 (by omega)
  simp only [num, h0, h1, h2, h3, h4, h5, h6, h7]
  generalize xs.getD k 0 = x at *
  omega
theorem num_16 (xs : List Nat) (k : Nat) (h : xs.getD k 0 < 256) (h2 : xs.getD (k + 1) 0 < 256) : num xs (8 * k) 16 = xs.getD k 0 + 256 * xs.getD (k + 1) 0 := by
  rw [show (16 : Nat) = 8 + 8 from rfl, num_add, num_8 xs k h, show 8 * k + 8 = 8 * (k + 1) from by omega, num_8 xs (k + 1) h2]
  omega
theorem num_1 (xs : List Nat) (k : Nat) (h : xs.getD k 0 < 2) : num xs (8 * k) 1 = xs.getD k 0 ∧ num xs (8 * k + 1) 2 = 0 := by
  have h0 : bitAt xs (8 * k + 0) = _ := bitAt_8 xs k 0 (by omega)
  have h1 : bitAt xs (8 * k + 1 + 0) = _ := bitAt_8 xs k 1 (by omega)
  have h2 : bitAt xs (8 * k + 1 + 1) = _ := bitAt_8 xs k 2 (by omega)
  simp only [num, h0, h1, h2]
  generalize xs.getD k 0 = x at *
  omega
theorem xor_len : ∀ x, x < 256 → (255 - x) + 256 * 255 = x ^^^ 65535 := by decide +kernel

/-- bytes as they are -/
theorem run_bytes (xs : List Nat) (most : Nat) (hb : ∀ x ∈ xs, x < 256) : ∀ m j o, j + m ≤ xs.length → o.length + m ≤ most → run xs most (bytesR m) (8 * j) o = .ok ((), 8 * (j + m), o ++ (xs.drop j).take m)
  | 0, j, o, _, _ => by rw [bytesR, run]; simp
  | m + 1, j, o, h, ho => by
    have hlt : j < xs.length := by omega
    have hx : xs.getD j 0 = xs[j] := by simp [hlt]
    have h256 : xs.getD j 0 < 256 := by rw [hx]; exact hb _ (List.getElem_mem hlt)
    rw [bytesR, run_bind, run_bits _ _ _ _ _ (by omega), if_neg (by omega), num_8 xs j h256]
    show run xs most (.put _ _) _ o = _
    rw [run, if_neg (by omega), show 8 * j + 8 = 8 * (j + 1) from by omega, run_bytes xs most hb m (j + 1) _ (by omega) (by rw [List.length_append]; show o.length + 1 + m ≤ most; omega)]
    rw [List.drop_eq_getElem_cons hlt, List.take_succ_cons, hx, List.append_assoc, show j + 1 + m = j + (m + 1) from by omega]
    rfl
/-- a stored block -/
def enc (l : Nat) (P : List Nat) : List Nat := [l, P.length, 0, 255 - P.length, 255] ++ P
theorem enc_len (l : Nat) (P : List Nat) : (enc l P).length = 5 + P.length := by simp [enc]; omega
theorem run_stored (pre post P : List Nat) (l most F : Nat) (o : List Nat) (hl : l < 2) (hP : P.length ≤ 200) (hb : ∀ x ∈ pre ++ enc l P ++ post, x < 256) (ho : o.length + P.length ≤ most) :
    run (pre ++ enc l P ++ post) most (blockR F) (8 * pre.length) o = .ok (l, 8 * (pre.length + (5 + P.length)), o ++ P) := by
  obtain ⟨xs, hxs⟩ : ∃ xs, xs = pre ++ enc l P ++ post := ⟨_, rfl⟩
  rw [← hxs] at hb ⊢
  obtain ⟨k, hk⟩ : ∃ k, k = pre.length := ⟨_, rfl⟩
  have hlen : xs.length = k + (5 + P.length) + post.length := by rw [hxs, hk, List.length_append, List.length_append, enc_len]
  have hg : ∀ i, i < 5 → xs.getD (k + i) 0 = [l, P.length, 0, 255 - P.length, 255].getD i 0 := fun i hi => by
    rw [hxs, hk, List.append_assoc, List.getD_eq_getElem?_getD, List.getElem?_append_right (by omega), Nat.add_sub_cancel_left, List.getElem?_append_left (by rw [enc_len]; omega)]
    unfold enc
    rw [List.getElem?_append_left (by simp; omega), ← List.getD_eq_getElem?_getD]
  have g0 : xs.getD k 0 = l := hg 0 (by omega)
  have g1 : xs.getD (k + 1) 0 = P.length := hg 1 (by omega)
  have g2 : xs.getD (k + 2) 0 = 0 := hg 2 (by omega)
  have g3 : xs.getD (k + 3) 0 = 255 - P.length := hg 3 (by omega)
  have g4 : xs.getD (k + 4) 0 = 255 := hg 4 (by omega)
  rw [← hk]
  obtain ⟨n1, n2⟩ := num_1 xs k (by omega)
  have m1 : num xs (8 * (k + 1)) 16 = P.length := by rw [num_16 xs (k + 1) (by omega) (by rw [show k + 1 + 1 = k + 2 from rfl]; omega), g1, show k + 1 + 1 = k + 2 from rfl, g2]; omega
  have m2 : num xs (8 * (k + 3)) 16 = P.length ^^^ 65535 := by rw [num_16 xs (k + 3) (by omega) (by rw [show k + 3 + 1 = k + 4 from rfl]; omega), g3, show k + 3 + 1 = k + 4 from rfl, g4]; exact xor_len _ (by omega)
  have hal : (8 * k + 1 + 2 + 7) / 8 * 8 = 8 * (k + 1) := by omega
  rw [blk_3 (by omega), n1, n2, if_neg (by omega), if_pos rfl, g0]
  rw [copy_4 (by rw [hal]; omega) (by rw [hal, m1]; omega), hal, m1, show 8 * (k + 1) + 16 = 8 * (k + 3) from by omega, m2, if_neg (by simp), show 8 * (k + 3) + 16 = 8 * (k + 5) from by omega, run_bytes xs most hb _ (k + 5) o (by omega) ho]
  have hd : (xs.drop (k + 5)).take P.length = P := by
    rw [hxs, hk, List.append_assoc, ← List.drop_drop, List.drop_left]
    unfold enc
    rw [List.append_assoc, show (5 : Nat) = [l, P.length, 0, 255 - P.length, 255].length from rfl, List.drop_left, List.take_left]
  rw [hd, show k + 5 + P.length = k + (5 + P.length) from by omega]
  rfl

/-- the blocks of the first i parts, of n -/
def stB (n : Nat) (X : Nat → List Nat) (i : Nat) : List Nat := (List.range i).flatMap fun j => enc (if j + 1 = n then 1 else 0) (X j)
def stA (X : Nat → List Nat) (i : Nat) : List Nat := (List.range i).flatMap X
theorem stB_succ (n : Nat) (X : Nat → List Nat) (i : Nat) : stB n X (i + 1) = stB n X i ++ enc (if i + 1 = n then 1 else 0) (X i) := by simp [stB, List.range_succ]
theorem stA_succ (X : Nat → List Nat) (i : Nat) : stA X (i + 1) = stA X i ++ X i := by simp [stA, List.range_succ]
theorem stA_len (X : Nat → List Nat) : ∀ i, (∀ j, j < i → (X j).length ≤ 200) → (stA X i).length ≤ 200 * i
  | 0, _ => by simp [stA]
  | i + 1, h => by rw [stA_succ, List.length_append]; have := stA_len X i (fun j hj => h j (by omega)); have := h i (by omega); omega
theorem stB_len (n : Nat) (X : Nat → List Nat) : ∀ i, (∀ j, j < i → (X j).length ≤ 200) → (stB n X i).length ≤ 205 * i
  | 0, _ => by simp [stB]
  | i + 1, h => by rw [stB_succ, List.length_append, enc_len]; have := stB_len n X i (fun j hj => h j (by omega)); have := h i (by omega); omega
theorem stB_more (n : Nat) (X : Nat → List Nat) (i : Nat) : ∀ d, ∃ r, stB n X (i + d) = stB n X i ++ r
  | 0 => ⟨[], by simp⟩
  | d + 1 => by
    obtain ⟨r, hr⟩ := stB_more n X i d
    exact ⟨r ++ enc (if i + d + 1 = n then 1 else 0) (X (i + d)), by rw [← Nat.add_assoc, stB_succ, hr, List.append_assoc]⟩
theorem enc_byte {l : Nat} {P : List Nat} (hl : l < 2) (hP : P.length ≤ 200) (h : ∀ x ∈ P, x < 256) : ∀ x ∈ enc l P, x < 256 := by
  intro x hx
  simp only [enc, List.mem_append, List.mem_cons, List.not_mem_nil, or_false] at hx
  rcases hx with (h1 | h1 | h1 | h1 | h1) | h1
  all_goals first | omega | exact h x h1
theorem stB_byte (n : Nat) (X : Nat → List Nat) : ∀ i, (∀ j, j < i → (X j).length ≤ 200 ∧ ∀ x ∈ X j, x < 256) → ∀ x ∈ stB n X i, x < 256
  | 0, _ => by intro x hx; simp [stB] at hx
  | i + 1, h => by
    rw [stB_succ]
    intro x hx
    rcases List.mem_append.1 hx with hx | hx
    · exact stB_byte n X i (fun j hj => h j (by omega)) x hx
    · exact enc_byte (by split <;> omega) (h i (by omega)).1 (h i (by omega)).2 x hx
theorem stA_byte (X : Nat → List Nat) : ∀ i, (∀ j, j < i → ∀ x ∈ X j, x < 256) → ∀ x ∈ stA X i, x < 256
  | 0, _ => by intro x hx; simp [stA] at hx
  | i + 1, h => by
    rw [stA_succ]
    intro x hx
    rcases List.mem_append.1 hx with hx | hx
    · exact stA_byte X i (fun j hj => h j (by omega)) x hx
    · exact h i (by omega) x hx
theorem run_parts (n : Nat) (X : Nat → List Nat) (hX : ∀ j, j < n → (X j).length ≤ 200 ∧ ∀ x ∈ X j, x < 256) (hn : n ≤ 20) (F : Nat) : ∀ d i g, i + (d + 1) = n → d < g →
    run (stB n X n) 5000 (infR F g) (8 * (stB n X i).length) (stA X i) = .ok ((), 8 * (stB n X n).length, stA X n)
  | d, i, 0, _, hg => by omega
  | d, i, g + 1, hi, hg => by
    obtain ⟨r, hr⟩ := stB_more n X (i + 1) d
    rw [show i + 1 + d = n from by omega, stB_succ] at hr
    have hb := stB_byte n X n hX
    have hal := stA_len X i (fun j hj => (hX j (by omega)).1)
    have hPl := (hX i (by omega)).1
    have hs := run_stored (stB n X i) r (X i) (if i + 1 = n then 1 else 0) 5000 F (stA X i) (by split <;> omega) hPl (by rw [← hr]; exact hb) (by omega)
    rw [← hr] at hs
    rw [inf_step, hs]
    unfold InfThen
    have hlen : (stB n X i).length + (5 + (X i).length) = (stB n X (i + 1)).length := by rw [stB_succ, List.length_append, enc_len]
    simp only
    rw [hlen, ← stA_succ]
    cases d with
    | zero => rw [if_pos (by rw [if_pos (by omega)]), show i + 1 = n from by omega]
    | succ d =>
      rw [if_neg (by rw [if_neg (by omega)]; omega)]
      exact run_parts n X hX hn F d (i + 1) g (by omega) (by omega)
theorem inf_parts (n : Nat) (X : Nat → List Nat) (hX : ∀ j, j < n → (X j).length ≤ 200 ∧ ∀ x ∈ X j, x < 256) (hn : n ≤ 20) (h1 : 0 < n) (F : Nat) (hF : n < F) : inf F (stB n X n) 5000 = (stA X n, (stB n X n).length, 0) := by
  have h := run_parts n X hX hn F (n - 1) 0 F (by omega) (by omega)
  rw [inf_is_ok (show run (stB n X n) 5000 (infR F F) 0 [] = _ from h)]
  congr 2
  omega
end StPlain
end Go.Proofs.YtpbijdoemdoijaaGreatDoor
end PkCa29_0
