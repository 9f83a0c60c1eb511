/- What inflate's tree says of what squeeze writes, plainly. -/
import Derived.Test.YtnfdojdppifmoaaDoorInfFixPlain
import Derived.Test.YtnfdojdppifmoaaDoorSqLives
namespace Go.Proofs.YtnfdojdppifmoaaDoor
open Go.RowKit PrefPlain BitsPlain InfPlain StPlain FixPlain
set_option linter.unusedVariables false

namespace SqInf
theorem at7a : ∀ y, y < 24 → fixL.getD (y + 256) 0 = 7 ∧ S7.idxOf ((y + 256 : Nat) : Int) = y := by decide +kernel
theorem at8h : ∀ y, y < 8 → fixL.getD (y + 280) 0 = 8 ∧ S8.idxOf ((y + 280 : Nat) : Int) = 144 + y := by decide +kernel
theorem rn_sym {l pre post : List Nat} {s : Nat} (hs : s < 286) (hb : Bin l) (hl : l = pre ++ lcode s ++ post) : rn fixL (pack l) pre.length = ((s : Int), 0, (lcode s).length) := by
  unfold lcode at hl ⊢
  rw [codeOf_length]
  have key : 0 < (lw s).2 ∧ (lw s).2 ≤ 15 ∧ fixL.getD s 0 = ((lw s).2 : Int) ∧ fw (cn fixL) (lw s).2 + pl fixL s = (lw s).1 := by
    unfold lw pl
    rw [len_fix]
    by_cases h1 : s < 144
    · have e := at8 s h1
      rw [if_pos h1, e.1]
      simp only
      rw [show (8 : Int).toNat = 8 from rfl, sy8, e.2, fw_fix.2.1]
      exact ⟨by omega, by omega, rfl, rfl⟩
    · rw [if_neg h1]
      by_cases h2 : s < 256
      · obtain ⟨y, rfl⟩ : ∃ y, s = y + 144 := ⟨s - 144, by omega⟩
        have e := at9 y (by omega)
        rw [if_pos h2, e.1]
        simp only
        rw [show (9 : Int).toNat = 9 from rfl, sy9, e.2, fw_fix.2.2]
        exact ⟨by omega, by omega, rfl, by omega⟩
      · rw [if_neg h2]
        by_cases h3 : s < 280
        · obtain ⟨y, rfl⟩ : ∃ y, s = y + 256 := ⟨s - 256, by omega⟩
          have e := at7a y (by omega)
          rw [if_pos h3, e.1]
          simp only
          rw [show (7 : Int).toNat = 7 from rfl, sy7, e.2, fw_fix.1]
          exact ⟨by omega, by omega, rfl, by omega⟩
        · obtain ⟨y, rfl⟩ : ∃ y, s = y + 280 := ⟨s - 280, by omega⟩
          have e := at8h y (by omega)
          rw [if_neg h3, e.1]
          simp only
          rw [show (8 : Int).toNat = 8 from rfl, sy8, e.2, fw_fix.2.1]
          exact ⟨by omega, by omega, rfl, by omega⟩
  obtain ⟨k1, k2, k3, k4⟩ := key
  exact rn_word fits_fix k1 k2 (by rw [len_fix]; omega) k3 (code_left hl) (fun i hi => by rw [k4]; exact code_at hb hl hi)
def S5 : List Int := (List.range 32).map fun (i : Nat) => (i : Int)
theorem len_fixD : fixD.length = 32 := by decide +kernel
theorem sy5 : sy fixD 32 5 = S5 := by decide +kernel
theorem fw_fixD : fw (cn fixD) 5 = 0 := by decide +kernel
theorem fits_fixD : fitsB (cn fixD) (mo fixD fixD.length) = true := by decide +kernel
theorem at5 : ∀ x, x < 32 → fixD.getD x 0 = 5 ∧ S5.idxOf (x : Int) = x := by decide +kernel
theorem rn_dist {l pre post : List Nat} {d : Nat} (hd : d < 30) (hb : Bin l) (hl : l = pre ++ codeOf d 5 5 ++ post) : rn fixD (pack l) pre.length = ((d : Int), 0, 5) := by
  have e := at5 d (by omega)
  have k4 : fw (cn fixD) 5 + pl fixD d = d := by
    unfold pl
    rw [len_fixD, e.1, show (5 : Int).toNat = 5 from rfl, sy5, e.2, fw_fixD, Nat.zero_add]
  exact rn_word fits_fixD (by omega) (by omega) (by rw [len_fixD]; omega) e.1 (code_left hl) (fun i hi => by rw [k4]; exact code_at hb hl hi)
theorem num_bits {l pre post : List Nat} {v m : Nat} (hb : Bin l) (hl : l = pre ++ bitsOf v m ++ post) (hv : v < 2 ^ m) : num (pack l) pre.length m = v := by
  have hbit : ∀ i, i < m → bitAt (pack l) (pre.length + i) = v / 2 ^ i % 2 := fun i hi => by
    rw [bitAt_pack hb, hl, List.append_assoc, List.getD_eq_getElem?_getD, List.getElem?_append_right (by omega), Nat.add_sub_cancel_left, List.getElem?_append_left (by rw [bitsOf_length]; exact hi)]
    simp [bitsOf, hi]
  have hk : ∀ k, k ≤ m → num (pack l) pre.length k = v % 2 ^ k := by
    intro k
    induction k with
    | zero => intro _; simp [num, Nat.mod_one]
    | succ k ih =>
      intro hk
      rw [num, ih (by omega), hbit k (by omega), Nat.pow_succ, Nat.mod_mul, Nat.mul_comm (2 ^ k)]
  rw [hk m (Nat.le_refl _), Nat.mod_eq_of_lt hv]
theorem bits_left {l pre post : List Nat} {v m : Nat} (hl : l = pre ++ bitsOf v m ++ post) : pre.length + m ≤ 8 * (pack l).length := by
  rw [pack_length, hl, List.length_append, List.length_append, bitsOf_length]; omega

theorem lenS_of {n : Nat} (h3 : 3 ≤ n) (h : n ≤ 258) : (lenS n).1 < 29 ∧ (lenOf (lenS n).1).2 = (lenS n).2.2 ∧ (lenOf (lenS n).1).1 + (lenS n).2.1 = n ∧ (lenS n).2.1 < 2 ^ (lenS n).2.2 := by
  have : ∀ m, m < 256 → (lenS (m + 3)).1 < 29 ∧ (lenOf (lenS (m + 3)).1).2 = (lenS (m + 3)).2.2 ∧ (lenOf (lenS (m + 3)).1).1 + (lenS (m + 3)).2.1 = m + 3 ∧ (lenS (m + 3)).2.1 < 2 ^ (lenS (m + 3)).2.2 := by decide +kernel
  obtain ⟨m, rfl⟩ : ∃ m, n = m + 3 := ⟨n - 3, by omega⟩
  exact this m (by omega)
theorem distS_of {n : Nat} (h1 : 1 ≤ n) (h : n ≤ 32768) : (distS n).1 < 30 ∧ (disOf (distS n).1).2 = (distS n).2.2 ∧ (disOf (distS n).1).1 + (distS n).2.1 = n ∧ (distS n).2.1 < 2 ^ (distS n).2.2 := by
  obtain ⟨m, hm⟩ : ∃ m, m = n - 1 := ⟨_, rfl⟩
  have hx : ∀ y, y < lx 4 m → 4 * 2 ^ y ≤ m := fun y hy => xOf_le 4 m 16 0 y (by omega) hy
  have hg : m < 4 * 2 ^ lx 4 m := xOf_gt 4 m 16 0 (by simp; omega)
  have hx13 : lx 4 m ≤ 13 := xOf_most 4 m 13 (by simp; omega) 16 0 (by omega)
  have he : distS n = (2 * lx 4 m + m / 2 ^ lx 4 m, m % 2 ^ lx 4 m, lx 4 m) := by unfold distS; rw [hm]
  obtain ⟨x, hxe⟩ : ∃ x, x = lx 4 m := ⟨_, rfl⟩
  rw [← hxe] at hx hg hx13 he
  clear hxe
  obtain ⟨q, hq⟩ : ∃ q, q = m / 2 ^ x := ⟨_, rfl⟩
  obtain ⟨r, hr⟩ : ∃ r, r = m % 2 ^ x := ⟨_, rfl⟩
  have hdm : 2 ^ x * q + r = m := by rw [hq, hr]; exact Nat.div_add_mod _ _
  have hrl : r < 2 ^ x := by rw [hr]; exact Nat.mod_lt _ (Nat.two_pow_pos _)
  rw [← hq, ← hr] at he
  have hq4 : q < 4 := by rw [hq]; exact (Nat.div_lt_iff_lt_mul (Nat.two_pow_pos _)).2 hg
  have key : disOf (2 * x + q) = (1 + q * 2 ^ x, x) := by
    rcases Nat.eq_zero_or_pos x with h0 | hp
    · subst h0
      have t : ∀ q, q < 4 → disOf (2 * 0 + q) = (1 + q * 2 ^ 0, 0) := by decide +kernel
      exact t q hq4
    · have hq2 : 2 ≤ q := by
        have h4 := hx (x - 1) (by omega)
        rw [hq, Nat.le_div_iff_mul_le (Nat.two_pow_pos _)]
        have e : 2 ^ x = 2 * 2 ^ (x - 1) := by rw [← Nat.pow_succ', Nat.succ_eq_add_one, Nat.sub_add_cancel hp]
        rw [e]
        omega
      unfold disOf
      rw [if_neg (by omega), show (2 * x + q) / 2 - 1 = x from by omega, show 2 + (2 * x + q) % 2 = q from by omega]
  rw [he]
  simp only
  rw [key]
  simp only
  have hmul : q * 2 ^ x = 2 ^ x * q := Nat.mul_comm _ _
  exact ⟨by omega, trivial, by omega, hrl⟩
theorem repn_take {b : List Nat} {d : Nat} (hd : 1 ≤ d) : ∀ (n p : Nat), d ≤ p → p + n ≤ b.length → (∀ k, k < n → b.getD (p - d + k) 0 = b.getD (p + k) 0) → repn (b.take p) d n = b.take (p + n)
  | 0, p, _, _, _ => rfl
  | n + 1, p, h1, h2, h3 => by
    have hp : p < b.length := by omega
    have e : b.take p ++ [(b.take p).getD ((b.take p).length - d) 0] = b.take (p + 1) := by
      have h0 := h3 0 (by omega)
      rw [Nat.add_zero, Nat.add_zero] at h0
      have hl : (b.take p).length = p := by rw [List.length_take]; omega
      rw [hl, List.take_add_one, List.getElem?_eq_getElem hp]
      congr 1
      have e1 : (b.take p).getD (p - d) 0 = b.getD (p - d) 0 := by simp [show p - d < p by omega]
      rw [e1, h0]
      simp [hp]
    rw [repn, e, repn_take hd n (p + 1) (by omega) (by omega) (fun k hk => by
      have := h3 (k + 1) (by omega)
      rw [show p + 1 - d + k = p - d + (k + 1) from by omega, show p + 1 + k = p + (k + 1) from by omega]
      exact this), show p + 1 + n = p + (n + 1) from by omega]

set_option maxHeartbeats 1000000 in
theorem run_toks {b : List Nat} (hb : ∀ x ∈ b, x < 256) {l : List Nat} (hbin : Bin l) {most : Nat} (hm : b.length ≤ most) : ∀ (f p g : Nat) (pre : List Nat), b.length - p ≤ f → p ≤ b.length → b.length - p < g → l = pre ++ (toksFrom b f p).flatMap tbits ++ lcode 256 →
    run (pack l) most (symR fixL fixD g) pre.length (b.take p) = .ok ((), l.length, b) := by
  have last : ∀ (g : Nat) (pre : List Nat), 0 < g → l = pre ++ lcode 256 → run (pack l) most (symR fixL fixD g) pre.length (b.take b.length) = .ok ((), l.length, b) := by
    intro g pre hg hl
    obtain ⟨g, rfl⟩ : ∃ g', g = g' + 1 := ⟨g - 1, by omega⟩
    have hr := rn_sym (s := 256) (post := []) (by omega) hbin (by rw [List.append_nil]; exact hl)
    have hle : pre.length ≤ 8 * (pack l).length := by rw [pack_length, hl, List.length_append]; omega
    rw [sym_2 hle (by rw [hr]) (by rw [hr]; rfl), hr, List.take_length, hl, List.length_append]
  intro f
  induction f with
  | zero =>
    intro p g pre h1 h2 h3 hl
    obtain rfl : p = b.length := by omega
    exact last g pre (by omega) (by rw [hl, toksFrom]; simp)
  | succ f ih =>
    intro p g pre h1 h2 h3 hl
    rcases Nat.lt_or_ge p b.length with hp | hp
    · obtain ⟨g, rfl⟩ : ∃ g', g = g' + 1 := ⟨g - 1, by omega⟩
      rw [toksFrom, if_pos hp] at hl
      rcases tokAt_says hb hp with ⟨ht, hx⟩ | ⟨n, d, ht, q1, q2, q3, q4, q5, q6, q7⟩
      · obtain ⟨x, hxe⟩ : ∃ x, x = b.getD p 0 := ⟨_, rfl⟩
        rw [← hxe] at ht hx
        simp only [ht] at hl
        rw [show max 1 0 = 1 from rfl] at hl
        have htb : tbits (0, 0, x) = lcode x := by unfold tbits; rw [if_pos rfl]
        rw [List.flatMap_cons, htb] at hl
        have hl2 : l = pre ++ lcode x ++ ((toksFrom b f (p + 1)).flatMap tbits ++ lcode 256) := by rw [hl]; simp
        have hr := rn_sym (by omega) hbin hl2
        have hle : pre.length ≤ 8 * (pack l).length := by rw [pack_length, hl2, List.length_append, List.length_append]; omega
        have htl : (b.take p).length = p := by rw [List.length_take]; omega
        rw [sym_3 hle (by rw [hr]) (by rw [hr]; show (x : Int) < 256; omega), hr]
        show SymThen _ _ _ _ _ (run _ _ (.put (Int.toNat (x : Int)) _) _ _) = _
        rw [Int.toNat_natCast, run, if_neg (by rw [htl]; omega)]
        show run (pack l) most (symR fixL fixD g) (pre.length + (lcode x).length) (b.take p ++ [x]) = _
        have e : b.take p ++ [x] = b.take (p + 1) := by
          rw [List.take_add_one, List.getElem?_eq_getElem hp, hxe]
          simp [hp]
        rw [e, ← List.length_append]
        exact ih (p + 1) g (pre ++ lcode x) (by omega) (by omega) (by omega) (by rw [hl2]; simp)
      · simp only [ht] at hl
        rw [show max 1 n = n from by omega] at hl
        obtain ⟨a1, a2, a3, a4⟩ := lenS_of q1 q2
        obtain ⟨b1, b2, b3, b4⟩ := distS_of q3 q4
        obtain ⟨⟨s, v, m⟩, hL⟩ : ∃ y, y = lenS n := ⟨_, rfl⟩
        obtain ⟨⟨s', v', m'⟩, hD⟩ : ∃ y, y = distS d := ⟨_, rfl⟩
        rw [← hL] at a1 a2 a3 a4
        rw [← hD] at b1 b2 b3 b4
        simp only at a1 a2 a3 a4 b1 b2 b3 b4
        have htb : tbits (n, d, 0) = lcode (257 + s) ++ bitsOf v m ++ codeOf s' 5 5 ++ bitsOf v' m' := by
          unfold tbits
          rw [if_neg (by simp only; omega)]
          simp only
          rw [← hL, ← hD]
        rw [List.flatMap_cons, htb] at hl
        obtain ⟨rest, hrest⟩ : ∃ rest, rest = (toksFrom b f (p + n)).flatMap tbits ++ lcode 256 := ⟨_, rfl⟩
        have l1 : l = pre ++ lcode (257 + s) ++ (bitsOf v m ++ codeOf s' 5 5 ++ bitsOf v' m' ++ rest) := by rw [hl, hrest]; simp
        have l2 : l = (pre ++ lcode (257 + s)) ++ bitsOf v m ++ (codeOf s' 5 5 ++ bitsOf v' m' ++ rest) := by rw [hl, hrest]; simp
        have l3 : l = (pre ++ lcode (257 + s) ++ bitsOf v m) ++ codeOf s' 5 5 ++ (bitsOf v' m' ++ rest) := by rw [hl, hrest]; simp
        have l4 : l = (pre ++ lcode (257 + s) ++ bitsOf v m ++ codeOf s' 5 5) ++ bitsOf v' m' ++ rest := by rw [hl, hrest]; simp
        have hr := rn_sym (by omega) hbin l1
        have hv := num_bits hbin l2 a4
        have hd := rn_dist b1 hbin l3
        have hv' := num_bits hbin l4 b4
        have hle : pre.length ≤ 8 * (pack l).length := by rw [pack_length, l1, List.length_append, List.length_append]; omega
        have w2 := bits_left l2
        have w4 := bits_left l4
        have htl : (b.take p).length = p := by rw [List.length_take]; omega
        rw [sym_5 hle (by rw [hr]) (by rw [hr]; show (256 : Int) < ((257 + s : Nat) : Int); omega) (by rw [hr]; show ((257 + s : Nat) : Int) < 286; omega), hr]
        simp only
        rw [show (((257 + s : Nat) : Int) - 257).toNat = s from by omega]
        have P2 : pre.length + (lcode (257 + s)).length = (pre ++ lcode (257 + s)).length := by rw [List.length_append]
        have P3 : (pre ++ lcode (257 + s)).length + m = (pre ++ lcode (257 + s) ++ bitsOf v m).length := by simp only [List.length_append, bitsOf_length]
        have P4 : (pre ++ lcode (257 + s) ++ bitsOf v m).length + 5 = (pre ++ lcode (257 + s) ++ bitsOf v m ++ codeOf s' 5 5).length := by simp only [List.length_append, bitsOf_length, codeOf_length]
        have P5 : (pre ++ lcode (257 + s) ++ bitsOf v m ++ codeOf s' 5 5).length + m' = (pre ++ lcode (257 + s) ++ bitsOf v m ++ codeOf s' 5 5 ++ bitsOf v' m').length := by simp only [List.length_append, bitsOf_length, codeOf_length]
        have hrep : run (pack l) most (repR s fixD) (pre ++ lcode (257 + s)).length (b.take p) = .ok ((), (pre ++ lcode (257 + s) ++ bitsOf v m ++ codeOf s' 5 5 ++ bitsOf v' m').length, b.take (p + n)) := by
          rw [rep_3 (by rw [a2]; exact w2) (by rw [a2, P3, hd])]
          rw [a2, P3, hd]
          simp only
          rw [if_neg (by omega), Int.toNat_natCast, b2, P4, rep_4 (by omega), if_neg (by omega), hv, hv', a3, b3, if_neg (by rw [htl]; omega), if_neg (by rw [htl]; omega), P5, repn_take q3 n p q5 q6 q7]
        rw [P2, hrep]
        show run (pack l) most (symR fixL fixD g) _ _ = _
        exact ih (p + n) g _ (by omega) (by omega) (by omega) (by rw [l4, hrest, ← List.append_assoc])
    · obtain rfl : p = b.length := by omega
      rw [toksFrom, if_neg (by omega)] at hl
      exact last g pre (by omega) (by rw [hl]; simp)

theorem fxB_is (b : List Nat) : fxB (toks b) = (bitsOf 1 1 ++ bitsOf 1 2) ++ (toksFrom b b.length 0).flatMap tbits ++ lcode 256 := by
  unfold fxB fixTo toks
  rw [List.take_length]
theorem tbits_bin' (t : Nat × Nat × Nat) : Bin (tbits t) := by
  unfold tbits
  split
  · exact codeOf_bin _ _ _
  · exact (((codeOf_bin _ _ _).app (bitsOf_bin _ _)).app (codeOf_bin _ _ _)).app (bitsOf_bin _ _)
theorem flat_bin' : ∀ l : List (Nat × Nat × Nat), Bin (l.flatMap tbits)
  | [] => fun x hx => by cases hx
  | t :: r => by rw [List.flatMap_cons]; exact (tbits_bin' t).app (flat_bin' r)
theorem fxB_bin' (b : List Nat) : Bin (fxB (toks b)) := by
  rw [fxB_is]
  exact (((bitsOf_bin _ _).app (bitsOf_bin _ _)).app (flat_bin' _)).app (codeOf_bin _ _ _)
theorem inf_toks {b : List Nat} (hb : ∀ x ∈ b, x < 256) {most : Nat} (hm : b.length ≤ most) {F : Nat} (hF : b.length < F) : inf F (pack (fxB (toks b))) most = (b, (pack (fxB (toks b))).length, 0) := by
  have his := fxB_is b
  have hbin := fxB_bin' b
  obtain ⟨l, hl⟩ : ∃ l, l = fxB (toks b) := ⟨_, rfl⟩
  rw [← hl] at his hbin ⊢
  have hlen : 3 ≤ l.length := by rw [his]; simp [bitsOf_length]; omega
  have hp : 3 ≤ 8 * (pack l).length := by rw [pack_length]; omega
  have hbit : ∀ i, i < 3 → bitAt (pack l) i = [1, 1, 0].getD i 0 := fun i hi => by
    rw [bitAt_pack hbin, his, List.append_assoc, List.getD_eq_getElem?_getD, List.getElem?_append_left (by simp [bitsOf_length]; omega), ← List.getD_eq_getElem?_getD]
    rfl
  have n1 : num (pack l) 0 1 = 1 := by rw [num_one, hbit 0 (by omega)]; rfl
  have n2 : num (pack l) (0 + 1) 2 = 1 := by
    have b1 : bitAt (pack l) (0 + 1 + 0) = 1 := hbit 1 (by omega)
    have b2 : bitAt (pack l) (0 + 1 + 1) = 0 := hbit 2 (by omega)
    simp only [num, b1, b2]
  obtain ⟨G, rfl⟩ : ∃ G, F = G + 1 := ⟨F - 1, by omega⟩
  have hs := run_toks hb hbin hm b.length 0 (G + 1) (bitsOf 1 1 ++ bitsOf 1 2) (by omega) (by omega) (by omega) his
  rw [show (bitsOf 1 1 ++ bitsOf 1 2).length = 0 + 1 + 2 from rfl, List.take_zero] at hs
  have h : run (pack l) most (infR (G + 1) (G + 1)) 0 [] = .ok ((), l.length, b) := by
    rw [inf_step, blk_3 (by omega), n1, n2, if_neg (by decide), if_neg (by decide), if_pos rfl, hs]
    rfl
  rw [inf_is_ok h, pack_length]

theorem xor_16 (a : Nat) (ha : a < 65536) : a ^^^ 65535 = 65535 - a := by
  refine Nat.eq_of_testBit_eq (fun i => ?_)
  have e1 := Nat.testBit_two_pow_sub_succ (n := 16) (x := a) ha i
  rw [show 2 ^ 16 - (a + 1) = 65535 - a from by omega] at e1
  rw [Nat.testBit_xor, e1, show (65535 : Nat) = 2 ^ 16 - 1 from rfl, Nat.testBit_two_pow_sub_one]
  rcases Nat.lt_or_ge i 16 with g | g
  · simp [g]
  · have : a.testBit i = false := Nat.testBit_lt_two_pow (Nat.lt_of_lt_of_le (show a < 2 ^ 16 from ha) (Nat.pow_le_pow_right (by omega) g))
    simp [this, Nat.not_lt.2 g]
theorem inf_stored {b : List Nat} (hb : ∀ x ∈ b, x < 256) (hn : b.length ≤ 65535) {most : Nat} (hm : b.length ≤ most) {F : Nat} (hF : 0 < F) : inf F (stP b) most = (b, (stP b).length, 0) := by
  obtain ⟨xs, hxs⟩ : ∃ xs, xs = stP b := ⟨_, rfl⟩
  have hlen : xs.length = b.length + 5 := by rw [hxs, stP_len]
  have hby : ∀ x ∈ xs, x < 256 := by
    intro x hx
    rw [hxs] at hx
    unfold stP at hx
    rcases List.mem_append.1 hx with h | h
    · simp only [List.mem_cons, List.not_mem_nil, or_false] at h
      omega
    · exact hb x h
  have hg : ∀ i, i < 5 → xs.getD i 0 = [1, b.length % 256, b.length / 256, 255 - b.length % 256, 255 - b.length / 256].getD i 0 := fun i hi => by
    rw [hxs]
    unfold stP
    rw [List.getD_eq_getElem?_getD, List.getElem?_append_left (by simp; omega), ← List.getD_eq_getElem?_getD]
  have g0 : xs.getD 0 0 = 1 := hg 0 (by omega)
  have g1 : xs.getD (0 + 1) 0 = b.length % 256 := hg 1 (by omega)
  have g2 : xs.getD (0 + 1 + 1) 0 = b.length / 256 := hg 2 (by omega)
  have g3 : xs.getD 3 0 = 255 - b.length % 256 := hg 3 (by omega)
  have g4 : xs.getD (3 + 1) 0 = 255 - b.length / 256 := hg 4 (by omega)
  have hd : (xs.drop 5).take b.length = b := by
    rw [hxs]
    unfold stP
    rw [show (5 : Nat) = [1, b.length % 256, b.length / 256, 255 - b.length % 256, 255 - b.length / 256].length from rfl, List.drop_left, List.take_length]
  rw [← hxs]
  obtain ⟨n1, n2⟩ := num_1 xs 0 (by omega)
  rw [g0] at n1
  have m1 : num xs (8 * (0 + 1)) 16 = b.length := by rw [num_16 xs (0 + 1) (by omega) (by omega), g1, g2]; omega
  have m2 : num xs (8 * 3) 16 = b.length ^^^ 65535 := by rw [num_16 xs 3 (by omega) (by omega), g3, g4, xor_16 _ (by omega)]; omega
  obtain ⟨G, rfl⟩ : ∃ G, F = G + 1 := ⟨F - 1, by omega⟩
  have hal : (8 * 0 + 1 + 2 + 7) / 8 * 8 = 8 * (0 + 1) := by decide
  have h : run xs most (infR (G + 1) (G + 1)) (8 * 0) [] = .ok ((), 8 * (5 + b.length), b) := by
    rw [inf_step, blk_3 (by omega), n1, n2, if_neg (by omega), if_pos rfl]
    rw [copy_4 (by rw [hal]; omega) (by rw [hal, m1]; simp; omega), hal, m1, show 8 * (0 + 1) + 16 = 8 * 3 from rfl, m2, if_neg (by simp), show 8 * 3 + 16 = 8 * 5 from rfl, run_bytes xs most hby _ 5 [] (by omega) (by simp; omega), hd]
    rfl
  rw [inf_is_ok (show run xs most (infR (G + 1) (G + 1)) 0 [] = _ from h), hlen]
  congr 2
  omega
theorem inf_dfl {b : List Nat} (hb : ∀ x ∈ b, x < 256) (hn : b.length ≤ 65535) {most : Nat} (hm : b.length ≤ most) {F : Nat} (hF : b.length < F) : inf F (dfl b) most = (b, (dfl b).length, 0) ∧ (dfl b).length ≤ b.length + 5 := by
  have hs := stor_bytes hb hn
  unfold dfl
  split
  · rw [hs]
    exact ⟨inf_stored hb hn hm (by omega), by rw [stP_len]; omega⟩
  · rename_i h
    refine ⟨inf_toks hb hm hF, ?_⟩
    rw [hs, stP_len] at h
    omega
end SqInf

set_option maxRecDepth 100000 in
set_option maxHeartbeats 4000000 in
theorem squeezeBack_walk (a0 : Option Addr) (len0 cap0 : Nat) (z0 : List Int) (w : World) (hO : Ordr w) (w0 : IsRow .u8 1 w a0 len0 cap0 z0) :
    Calls Tryd.prog 4 #[.slice a0 len0 cap0] w fun e w' => e = .returned (.bool true) ∧ Below w.heap.size w w' := by
  obtain ⟨xs, hb⟩ := w0.bytes
  have hll := hb.len
  have HL := Lib.hid (lives7_any (w := w))
  have HH := Lib.hid hb
  have HO := Lib.hid hO
  clear w0 hb hO
  by_cases hbig : (4096 : Int) < (len0 : Int)
  · go_enter Tryd.func4, Tryd.ntmps4
    go_wp2_with fail
    refine HL.out.mono ?_
    rintro e w1 ⟨rfl, hb1⟩
    have HB1 := Lib.hid hb1
    have HL1 := Lib.hid (lives7_any (w := w1))
    clear hb1
    go_wp2_with fail
    refine HL1.out.mono ?_
    rintro e w2 ⟨rfl, hb2⟩
    have HB2 := Lib.hid (HB1.out.trans (hb2.mono HB1.out.size))
    clear hb2
    go_wp2_with fail
    go_ret
    exact ⟨rfl, HB2.out⟩
  · have hbig3 : len0 ≤ 4096 := by omega
    obtain ⟨m, hm⟩ : ∃ m, m = (dfl xs).length := ⟨_, rfl⟩
    obtain ⟨hi1, hi2⟩ := SqInf.inf_dfl HH.out.byte (by omega) (most := len0) (by omega) (F := 8 * m + 1 + len0) (by omega)
    rw [← hm] at hi1 hi2
    have HI := Lib.hid hi1
    have hm5 : m ≤ len0 + 5 := by omega
    have hm5i : (m : Int) ≤ (len0 : Int) + 5 := by omega
    have HM := Lib.hid hm
    clear hi1 hi2 hm
    go_enter Tryd.func4, Tryd.ntmps4
    go_wp2_with fail
    refine HL.out.mono ?_
    rintro e w1 ⟨rfl, hb1⟩
    have HB1 := Lib.hid hb1
    have HH1 := Lib.hid (HH.out.kept hb1)
    have HD := Lib.hid (deflate_any HH1.out (by omega))
    clear hb1
    go_wp2_with fail
    refine HD.out.mono ?_
    rintro e w2 ⟨a2, c2, rfl, h2, hb2⟩
    rw [← HM.out] at h2
    rw [← HM.out]
    have HB2 := Lib.hid (HB1.out.trans (hb2.mono HB1.out.size))
    have HH2 := Lib.hid (HH1.out.kept hb2)
    have HIN := Lib.hid (inflate_any h2 (HO.out.below HB2.out) (8 * m + 1 + len0) len0 (by rw [← HM.out]; omega) (by omega) (by omega))
    clear h2 hb2
    go_wp2_with fail
    refine HIN.out.mono ?_
    intro e w3 hout
    obtain ⟨a3, c3, rfl, h3, hb3⟩ := hout.at2 HI.out hll (by omega)
    have HB3 := Lib.hid (HB2.out.trans (hb3.mono HB2.out.size))
    have hs := same_any h3 (HH2.out.kept hb3)
    rw [beq_self_eq_true] at hs
    have HS := Lib.hid hs
    clear hout h3 hb3 hs
    go_wp2_with fail
    refine HS.out.mono ?_
    rintro e w4 ⟨rfl, rfl⟩
    go_wp2_with fail
    go_ret
    exact ⟨rfl, HB3.out⟩
end Go.Proofs.YtnfdojdppifmoaaDoor
