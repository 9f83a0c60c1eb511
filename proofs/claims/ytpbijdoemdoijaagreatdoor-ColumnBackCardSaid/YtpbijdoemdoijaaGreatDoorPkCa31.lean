/- Texts put together by packtpl2.py: InfFixPlain, SqInf, ColSq. -/
import Derived.Test.YtpbijdoemdoijaaGreatDoorPkCa7
import Derived.Test.YtpbijdoemdoijaaGreatDoorPkCa11
import Derived.Test.YtpbijdoemdoijaaGreatDoorPkCa24
import Derived.Test.YtpbijdoemdoijaaGreatDoorPkCa29
import Derived.Test.YtpbijdoemdoijaaGreatDoorPkCa30
section PkCa31_0
/- What inflate's tree says of letters in the fixed code, plainly. -/
namespace Go.Proofs.YtpbijdoemdoijaaGreatDoor
open Go.RowKit PrefPlain BitsPlain InfPlain StPlain
set_option linter.unusedVariables false

namespace FixPlain
/-- the symbols of each length -/
def S7 : List Int := (List.range 24).map fun i => ((i + 256 : Nat) : Int)
def S8 : List Int := ((List.range 144) ++ (List.range 8).map (· + 280)).map fun (i : Nat) => (i : Int)
def S9 : List Int := (List.range 112).map fun i => ((i + 144 : Nat) : Int)
theorem len_fix : fixL.length = 288 := by decide +kernel
theorem sy7 : sy fixL 288 7 = S7 := by decide +kernel
theorem sy8 : sy fixL 288 8 = S8 := by decide +kernel
theorem sy9 : sy fixL 288 9 = S9 := by decide +kernel
theorem fw_fix : fw (cn fixL) 7 = 0 ∧ fw (cn fixL) 8 = 48 ∧ fw (cn fixL) 9 = 400 := by decide +kernel
theorem fits_fix : fitsB (cn fixL) (mo fixL fixL.length) = true := by decide +kernel
theorem at8 : ∀ x, x < 144 → fixL.getD x 0 = 8 ∧ S8.idxOf (x : Int) = x := by decide +kernel
theorem at9 : ∀ x, x < 112 → fixL.getD (x + 144) 0 = 9 ∧ S9.idxOf ((x + 144 : Nat) : Int) = x := by decide +kernel
theorem at7 : fixL.getD 256 0 = 7 ∧ S7.idxOf 256 = 0 := by decide +kernel
theorem pl8 {x : Nat} (h : x < 144) : fw (cn fixL) 8 + pl fixL x = 48 + x := by
  unfold pl; rw [(at8 x h).1, len_fix, show (8 : Int).toNat = 8 from rfl, sy8, (at8 x h).2, fw_fix.2.1]
theorem pl9 {x : Nat} (h : 144 ≤ x) (h2 : x < 256) : fw (cn fixL) 9 + pl fixL x = 256 + x := by
  obtain ⟨y, rfl⟩ : ∃ y, x = y + 144 := ⟨x - 144, by omega⟩
  unfold pl; rw [(at9 y (by omega)).1, len_fix, show (9 : Int).toNat = 9 from rfl, sy9, (at9 y (by omega)).2, fw_fix.2.2]; omega
theorem pl7 : fw (cn fixL) 7 + pl fixL 256 = 0 := by
  unfold pl; rw [at7.1, len_fix, show (7 : Int).toNat = 7 from rfl, sy7, show ((256 : Nat) : Int) = 256 from rfl, at7.2, fw_fix.1]

/-- a letter's word -/
def cw (x : Nat) : List Nat := if x < 144 then codeOf (48 + x) 8 8 else codeOf (256 + x) 9 9
def cws (xs : List Nat) : List Nat := xs.flatMap cw
theorem cws_snoc (xs : List Nat) (x : Nat) : cws (xs ++ [x]) = cws xs ++ cw x := by simp [cws]
theorem cw_len (x : Nat) : (cw x).length = if x < 144 then 8 else 9 := by unfold cw; split <;> simp [codeOf_length]
theorem cw_bin (x : Nat) : Bin (cw x) := by unfold cw; split <;> exact codeOf_bin _ _ _
theorem cws_bin (xs : List Nat) : Bin (cws xs) := by
  intro y hy
  simp only [cws, List.mem_flatMap] at hy
  obtain ⟨x, _, hx⟩ := hy
  exact cw_bin x y hx
theorem cws_len : ∀ xs : List Nat, (cws xs).length ≤ 9 * xs.length
  | [] => by simp [cws]
  | x :: r => by
    have ih := cws_len r
    have h := cw_len x
    have h9 : (cw x).length ≤ 9 := by rw [h]; split <;> omega
    simp only [cws, List.flatMap_cons, List.length_append, List.length_cons] at ih ⊢
    omega
/-- a code of n bits that stands at a place -/
theorem code_at {l pre post : List Nat} {V n : Nat} (hb : Bin l) (hl : l = pre ++ codeOf V n n ++ post) {i : Nat} (hi : i < n) : bitAt (pack l) (pre.length + i) = V / 2 ^ (n - 1 - i) % 2 := by
  rw [bitAt_pack hb, hl, List.append_assoc, List.getD_eq_getElem?_getD, List.getElem?_append_right (by omega), Nat.add_sub_cancel_left, List.getElem?_append_left (by rw [codeOf_length]; exact hi)]
  simp [codeOf, hi]
theorem code_left {l pre post : List Nat} {V n : Nat} (hl : l = pre ++ codeOf V n n ++ post) : pre.length + n ≤ 8 * (pack l).length := by
  rw [pack_length, hl, List.length_append, List.length_append, codeOf_length]; omega
theorem rn_letter {l pre post : List Nat} {x : Nat} (hx : x < 256) (hb : Bin l) (hl : l = pre ++ cw x ++ post) : rn fixL (pack l) pre.length = ((x : Int), 0, (cw x).length) := by
  by_cases h : x < 144
  · have hc : cw x = codeOf (48 + x) 8 8 := by unfold cw; rw [if_pos h]
    rw [hc] at hl ⊢
    rw [codeOf_length]
    exact rn_word fits_fix (by omega) (by omega) (by rw [len_fix]; omega) (at8 x h).1 (code_left hl) (fun i hi => by rw [pl8 h]; exact code_at hb hl hi)
  · have hc : cw x = codeOf (256 + x) 9 9 := by unfold cw; rw [if_neg h]
    rw [hc] at hl ⊢
    rw [codeOf_length]
    have h9 := (at9 (x - 144) (by omega)).1
    rw [show x - 144 + 144 = x from by omega] at h9
    exact rn_word fits_fix (by omega) (by omega) (by rw [len_fix]; omega) h9 (code_left hl) (fun i hi => by rw [pl9 (by omega) hx]; exact code_at hb hl hi)
theorem rn_last {l pre post : List Nat} (hb : Bin l) (hl : l = pre ++ codeOf 0 7 7 ++ post) : rn fixL (pack l) pre.length = (((256 : Nat) : Int), 0, 7) :=
  rn_word (n := 7) fits_fix (by omega) (by omega) (by rw [len_fix]; omega) at7.1 (code_left hl) (fun i hi => by rw [pl7]; exact code_at hb hl hi)

/-- all that is written -/
def fixAll (xs : List Nat) : List Nat := bitsOf 3 3 ++ cws xs ++ codeOf 0 7 7
theorem fixAll_bin (xs : List Nat) : Bin (fixAll xs) := ((bitsOf_bin 3 3).app (cws_bin xs)).app (codeOf_bin _ _ _)
theorem fixAll_len (xs : List Nat) : (fixAll xs).length = 3 + (cws xs).length + 7 := by simp [fixAll, bitsOf_length, codeOf_length]; omega
theorem run_fix (D : List Int) (most : Nat) (all : List Nat) (hb : ∀ x ∈ all, x < 256) (hm : all.length ≤ most) : ∀ (todo done : List Nat) (g : Nat), all = done ++ todo → todo.length < g →
    run (pack (fixAll all)) most (symR fixL D g) (3 + (cws done).length) done = .ok ((), 3 + (cws all).length + 7, all)
  | todo, done, 0, _, hg => by omega
  | [], done, g + 1, hall, hg => by
    rw [List.append_nil] at hall
    subst hall
    have hr := rn_last (pre := bitsOf 3 3 ++ cws all) (post := []) (fixAll_bin all) (by rw [List.append_nil]; rfl)
    rw [List.length_append, bitsOf_length] at hr
    have hle : 3 + (cws all).length ≤ 8 * (pack (fixAll all)).length := by rw [pack_length, fixAll_len]; omega
    rw [sym_2 hle (by rw [hr]) (by rw [hr]; rfl), hr]
  | x :: todo, done, g + 1, hall, hg => by
    have hl : fixAll all = (bitsOf 3 3 ++ cws done) ++ cw x ++ (cws todo ++ codeOf 0 7 7) := by
      unfold fixAll
      rw [hall]
      simp [cws]
    have hx : x < 256 := hb x (by rw [hall]; simp)
    have hr := rn_letter hx (fixAll_bin all) hl
    rw [List.length_append, bitsOf_length] at hr
    have hle : 3 + (cws done).length ≤ 8 * (pack (fixAll all)).length := by rw [pack_length, hl]; simp only [List.length_append, bitsOf_length]; omega
    have hdl : done.length + 1 ≤ most := by rw [hall] at hm; simp at hm; omega
    rw [sym_3 hle (by rw [hr]) (by rw [hr]; show (x : Int) < 256; omega), hr]
    show SymThen _ _ _ _ _ (run _ _ (.put (Int.toNat (x : Int)) _) _ _) = _
    rw [Int.toNat_natCast, run, if_neg (by omega)]
    show run (pack (fixAll all)) most (symR fixL D g) (3 + (cws done).length + (cw x).length) (done ++ [x]) = _
    have e : 3 + (cws done).length + (cw x).length = 3 + (cws (done ++ [x])).length := by rw [cws_snoc, List.length_append]; omega
    rw [e]
    exact run_fix D most all hb hm todo (done ++ [x]) g (by rw [hall]; simp) (by simp at hg; omega)
theorem inf_fix (xs : List Nat) (hb : ∀ x ∈ xs, x < 256) (most : Nat) (hm : xs.length ≤ most) (F : Nat) (hF : xs.length < F) : inf F (pack (fixAll xs)) most = (xs, (pack (fixAll xs)).length, 0) := by
  have hlen := fixAll_len xs
  have hp : 3 ≤ 8 * (pack (fixAll xs)).length := by rw [pack_length]; omega
  have hbit : ∀ i, i < 3 → bitAt (pack (fixAll xs)) i = (bitsOf 3 3).getD i 0 := fun i hi => by
    rw [bitAt_pack (fixAll_bin xs)]
    unfold fixAll
    rw [List.append_assoc, List.getD_eq_getElem?_getD, List.getElem?_append_left (by rw [bitsOf_length]; exact hi), ← List.getD_eq_getElem?_getD]
  have n1 : num (pack (fixAll xs)) 0 1 = 1 := by rw [num_one, hbit 0 (by omega)]; rfl
  have n2 : num (pack (fixAll xs)) (0 + 1) 2 = 1 := by
    have b1 : bitAt (pack (fixAll xs)) (0 + 1 + 0) = 1 := hbit 1 (by omega)
    have b2 : bitAt (pack (fixAll xs)) (0 + 1 + 1) = 0 := hbit 2 (by omega)
    simp only [num, b1, b2]
  obtain ⟨G, rfl⟩ : ∃ G, F = G + 1 := ⟨F - 1, by omega⟩
  have hs := run_fix fixD most xs hb hm xs [] (G + 1) rfl (by omega)
  have h : run (pack (fixAll xs)) most (infR (G + 1) (G + 1)) 0 [] = .ok ((), 3 + (cws xs).length + 7, xs) := by
    rw [inf_step, blk_3 (by omega), n1, n2, if_neg (by decide), if_neg (by decide), if_pos rfl]
    rw [show 3 + (cws ([] : List Nat)).length = 0 + 1 + 2 from rfl] at hs
    rw [hs]
    rfl
  rw [inf_is_ok h, pack_length, hlen]
end FixPlain
end Go.Proofs.YtpbijdoemdoijaaGreatDoor
end PkCa31_0
section PkCa31_1
/- What inflate's tree says of what squeeze writes, plainly. -/
namespace Go.Proofs.YtpbijdoemdoijaaGreatDoor
open Go.RowKit PrefPlain BitsPlain InfPlain StPlain FixPlain
set_option linter.unusedVariables false

namespace SqInf
theorem at7a : ∀ y, y < 24 → fixL.getD (y + 256) 0 = 7 ∧ S7.idxOf ((y + 256 : Nat) : Int) = y := by decide +kernel
theorem at8h : ∀ y, y < 8 → fixL.getD (y + 280) 0 = 8 ∧ S8.idxOf ((y + 280 : Nat) : Int) = 144 + y := by decide +kernel
theorem rn_sym {l pre post : List Nat} {s : Nat} (hs : s < 286) (hb : Bin l) (hl : l = pre ++ lcode s ++ post) : rn fixL (pack l) pre.length = ((s : Int), 0, (lcode s).length) := by
  unfold lcode at hl ⊢
  rw [codeOf_length]
  have key : 0 < (lw s).2 ∧ (lw s).2 ≤ 15 ∧ fixL.getD s 0 = ((lw s).2 : Int) ∧ fw (cn fixL) (lw s).2 + pl fixL s = (lw s).1 := by
    unfold lw pl
    rw [len_fix]
    by_cases h1 : s < 144
    · have e := at8 s h1
      rw [if_pos h1, e.1]
      simp only
      rw [show (8 : Int).toNat = 8 from rfl, sy8, e.2, fw_fix.2.1]
      exact ⟨by omega, by omega, rfl, rfl⟩
    · rw [if_neg h1]
      by_cases h2 : s < 256
      · obtain ⟨y, rfl⟩ : ∃ y, s = y + 144 := ⟨s - 144, by omega⟩
        have e := at9 y (by omega)
        rw [if_pos h2, e.1]
        simp only
        rw [show (9 : Int).toNat = 9 from rfl, sy9, e.2, fw_fix.2.2]
        exact ⟨by omega, by omega, rfl, by omega⟩
      · rw [if_neg h2]
        by_cases h3 : s < 280
        · obtain ⟨y, rfl⟩ : ∃ y, s = y + 256 := ⟨s - 256, by omega⟩
          have e := at7a y (by omega)
          rw [if_pos h3, e.1]
          simp only
          rw [show (7 : Int).toNat = 7 from rfl, sy7, e.2, fw_fix.1]
          exact ⟨by omega, by omega, rfl, by omega⟩
        · obtain ⟨y, rfl⟩ : ∃ y, s = y + 280 := ⟨s - 280, by omega⟩
          have e := at8h y (by omega)
          rw [if_neg h3, e.1]
          simp only
          rw [show (8 : Int).toNat = 8 from rfl, sy8, e.2, fw_fix.2.1]
          exact ⟨by omega, by omega, rfl, by omega⟩
  obtain ⟨k1, k2, k3, k4⟩ := key
  exact rn_word fits_fix k1 k2 (by rw [len_fix]; omega) k3 (code_left hl) (fun i hi => by rw [k4]; exact code_at hb hl hi)
def S5 : List Int := (List.range 32).map fun (i : Nat) => (i : Int)
theorem len_fixD : fixD.length = 32 := by decide +kernel
theorem sy5 : sy fixD 32 5 = S5 := by decide +kernel
theorem fw_fixD : fw (cn fixD) 5 = 0 := by decide +kernel
theorem fits_fixD : fitsB (cn fixD) (mo fixD fixD.length) = true := by decide +kernel
theorem at5 : ∀ x, x < 32 → fixD.getD x 0 = 5 ∧ S5.idxOf (x : Int) = x := by decide +kernel
theorem rn_dist {l pre post : List Nat} {d : Nat} (hd : d < 30) (hb : Bin l) (hl : l = pre ++ codeOf d 5 5 ++ post) : rn fixD (pack l) pre.length = ((d : Int), 0, 5) := by
  have e := at5 d (by omega)
  have k4 : fw (cn fixD) 5 + pl fixD d = d := by
    unfold pl
    rw [len_fixD, e.1, show (5 : Int).toNat = 5 from rfl, sy5, e.2, fw_fixD, Nat.zero_add]
  exact rn_word fits_fixD (by omega) (by omega) (by rw [len_fixD]; omega) e.1 (code_left hl) (fun i hi => by rw [k4]; exact code_at hb hl hi)
theorem num_bits {l pre post : List Nat} {v m : Nat} (hb : Bin l) (hl : l = pre ++ bitsOf v m ++ post) (hv : v < 2 ^ m) : num (pack l) pre.length m = v := by
  have hbit : ∀ i, i < m → bitAt (pack l) (pre.length + i) = v / 2 ^ i % 2 := fun i hi => by
    rw [bitAt_pack hb, hl, List.append_assoc, List.getD_eq_getElem?_getD, List.getElem?_append_right (by omega), Nat.add_sub_cancel_left, List.getElem?_append_left (by rw [bitsOf_length]; exact hi)]
    simp [bitsOf, hi]
  have hk : ∀ k, k ≤ m → num (pack l) pre.length k = v % 2 ^ k := by
    intro k
    induction k with
    | zero => intro _; simp [num, Nat.mod_one]
    | succ k ih =>
      intro hk
      rw [num, ih (by omega), hbit k (by omega), Nat.pow_succ, Nat.mod_mul, Nat.mul_comm (2 ^ k)]
  rw [hk m (Nat.le_refl _), Nat.mod_eq_of_lt hv]
theorem bits_left {l pre post : List Nat} {v m : Nat} (hl : l = pre ++ bitsOf v m ++ post) : pre.length + m ≤ 8 * (pack l).length := by
  rw [pack_length, hl, List.length_append, List.length_append, bitsOf_length]; omega

theorem lenS_of {n : Nat} (h3 : 3 ≤ n) (h : n ≤ 258) : (lenS n).1 < 29 ∧ (lenOf (lenS n).1).2 = (lenS n).2.2 ∧ (lenOf (lenS n).1).1 + (lenS n).2.1 = n ∧ (lenS n).2.1 < 2 ^ (lenS n).2.2 := by
  have : ∀ m, m < 256 → (lenS (m + 3)).1 < 29 ∧ (lenOf (lenS (m + 3)).1).2 = (lenS (m + 3)).2.2 ∧ (lenOf (lenS (m + 3)).1).1 + (lenS (m + 3)).2.1 = m + 3 ∧ (lenS (m + 3)).2.1 < 2 ^ (lenS (m + 3)).2.2 := by decide +kernel
  obtain ⟨m, rfl⟩ : ∃ m, n = m + 3 := ⟨n - 3, by omega⟩
  exact this m (by omega)
theorem distS_of {n : Nat} (h1 : 1 ≤ n) (h : n ≤ 32768) : (distS n).1 < 30 ∧ (disOf (distS n).1).2 = (distS n).2.2 ∧ (disOf (distS n).1).1 + (distS n).2.1 = n ∧ (distS n).2.1 < 2 ^ (distS n).2.2 := by
  obtain ⟨m, hm⟩ : ∃ m, m = n - 1 := ⟨_, rfl⟩
  have hx : ∀ y, y < lx 4 m → 4 * 2 ^ y ≤ m := fun y hy => xOf_le 4 m 16 0 y (by omega) hy
  have hg : m < 4 * 2 ^ lx 4 m := xOf_gt 4 m 16 0 (by simp; omega)
  have hx13 : lx 4 m ≤ 13 := xOf_most 4 m 13 (by simp; omega) 16 0 (by omega)
  have he : distS n = (2 * lx 4 m + m / 2 ^ lx 4 m, m % 2 ^ lx 4 m, lx 4 m) := by unfold distS; rw [hm]
  obtain ⟨x, hxe⟩ : ∃ x, x = lx 4 m := ⟨_, rfl⟩
  rw [← hxe] at hx hg hx13 he
  clear hxe
  obtain ⟨q, hq⟩ : ∃ q, q = m / 2 ^ x := ⟨_, rfl⟩
  obtain ⟨r, hr⟩ : ∃ r, r = m % 2 ^ x := ⟨_, rfl⟩
  have hdm : 2 ^ x * q + r = m := by rw [hq, hr]; exact Nat.div_add_mod _ _
  have hrl : r < 2 ^ x := by rw [hr]; exact Nat.mod_lt _ (Nat.two_pow_pos _)
  rw [← hq, ← hr] at he
  have hq4 : q < 4 := by rw [hq]; exact (Nat.div_lt_iff_lt_mul (Nat.two_pow_pos _)).2 hg
  have key : disOf (2 * x + q) = (1 + q * 2 ^ x, x) := by
    rcases Nat.eq_zero_or_pos x with h0 | hp
    · subst h0
      have t : ∀ q, q < 4 → disOf (2 * 0 + q) = (1 + q * 2 ^ 0, 0) := by decide +kernel
      exact t q hq4
    · have hq2 : 2 ≤ q := by
        have h4 := hx (x - 1) (by omega)
        rw [hq, Nat.le_div_iff_mul_le (Nat.two_pow_pos _)]
        have e : 2 ^ x = 2 * 2 ^ (x - 1) := by rw [← Nat.pow_succ', Nat.succ_eq_add_one, Nat.sub_add_cancel hp]
        rw [e]
        omega
      unfold disOf
      rw [if_neg (by omega), show (2 * x + q) / 2 - 1 = x from by omega, show 2 + (2 * x + q) % 2 = q from by omega]
  rw [he]
  simp only
  rw [key]
  simp only
  have hmul : q * 2 ^ x = 2 ^ x * q := Nat.mul_comm _ _
  exact ⟨by omega, trivial, by omega, hrl⟩
theorem repn_take {b : List Nat} {d : Nat} (hd : 1 ≤ d) : ∀ (n p : Nat), d ≤ p → p + n ≤ b.length → (∀ k, k < n → b.getD (p - d + k) 0 = b.getD (p + k) 0) → repn (b.take p) d n = b.take (p + n)
  | 0, p, _, _, _ => rfl
  | n + 1, p, h1, h2, h3 => by
    have hp : p < b.length := by omega
    have e : b.take p ++ [(b.take p).getD ((b.take p).length - d) 0] = b.take (p + 1) := by
      have h0 := h3 0 (by omega)
      rw [Nat.add_zero, Nat.add_zero] at h0
      have hl : (b.take p).length = p := by rw [List.length_take]; omega
      rw [hl, List.take_add_one, List.getElem?_eq_getElem hp]
      congr 1
      have e1 : (b.take p).getD (p - d) 0 = b.getD (p - d) 0 := by simp [show p - d < p by omega]
      rw [e1, h0]
      simp [hp]
    rw [repn, e, repn_take hd n (p + 1) (by omega) (by omega) (fun k hk => by
      have := h3 (k + 1) (by omega)
      rw [show p + 1 - d + k = p - d + (k + 1) from by omega, show p + 1 + k = p + (k + 1) from by omega]
      exact this), show p + 1 + n = p + (n + 1) from by omega]

set_option maxHeartbeats 1000000 in
theorem run_toks {b : List Nat} (hb : ∀ x ∈ b, x < 256) {l : List Nat} (hbin : Bin l) {most : Nat} (hm : b.length ≤ most) : ∀ (f p g : Nat) (pre : List Nat), b.length - p ≤ f → p ≤ b.length → b.length - p < g → l = pre ++ (toksFrom b f p).flatMap tbits ++ lcode 256 →
    run (pack l) most (symR fixL fixD g) pre.length (b.take p) = .ok ((), l.length, b) := by
  have last : ∀ (g : Nat) (pre : List Nat), 0 < g → l = pre ++ lcode 256 → run (pack l) most (symR fixL fixD g) pre.length (b.take b.length) = .ok ((), l.length, b) := by
    intro g pre hg hl
    obtain ⟨g, rfl⟩ : ∃ g', g = g' + 1 := ⟨g - 1, by omega⟩
    have hr := rn_sym (s := 256) (post := []) (by omega) hbin (by rw [List.append_nil]; exact hl)
    have hle : pre.length ≤ 8 * (pack l).length := by rw [pack_length, hl, List.length_append]; omega
    rw [sym_2 hle (by rw [hr]) (by rw [hr]; rfl), hr, List.take_length, hl, List.length_append]
  intro f
  induction f with
  | zero =>
    intro p g pre h1 h2 h3 hl
    obtain rfl : p = b.length := by omega
    exact last g pre (by omega) (by rw [hl, toksFrom]; simp)
  | succ f ih =>
    intro p g pre h1 h2 h3 hl
    rcases Nat.lt_or_ge p b.length with hp | hp
    · obtain ⟨g, rfl⟩ : ∃ g', g = g' + 1 := ⟨g - 1, by omega⟩
      rw [toksFrom, if_pos hp] at hl
      rcases tokAt_says hb hp with ⟨ht, hx⟩ | ⟨n, d, ht, q1, q2, q3, q4, q5, q6, q7⟩
      · obtain ⟨x, hxe⟩ : ∃ x, x = b.getD p 0 := ⟨_, rfl⟩
        rw [← hxe] at ht hx
        simp only [ht] at hl
        rw [show max 1 0 = 1 from rfl] at hl
        have htb : tbits (0, 0, x) = lcode x := by unfold tbits; rw [if_pos rfl]
        rw [List.flatMap_cons, htb] at hl
        have hl2 : l = pre ++ lcode x ++ ((toksFrom b f (p + 1)).flatMap tbits ++ lcode 256) := by rw [hl]; simp
        have hr := rn_sym (by omega) hbin hl2
        have hle : pre.length ≤ 8 * (pack l).length := by rw [pack_length, hl2, List.length_append, List.length_append]; omega
        have htl : (b.take p).length = p := by rw [List.length_take]; omega
        rw [sym_3 hle (by rw [hr]) (by rw [hr]; show (x : Int) < 256; omega), hr]
        show SymThen _ _ _ _ _ (run _ _ (.put (Int.toNat (x : Int)) _) _ _) = _
        rw [Int.toNat_natCast, run, if_neg (by rw [htl]; omega)]
        show run (pack l) most (symR fixL fixD g) (pre.length + (lcode x).length) (b.take p ++ [x]) = _
        have e : b.take p ++ [x] = b.take (p + 1) := by
          rw [List.take_add_one, List.getElem?_eq_getElem hp, hxe]
          simp [hp]
        rw [e, ← List.length_append]
        exact ih (p + 1) g (pre ++ lcode x) (by omega) (by omega) (by omega) (by rw [hl2]; simp)
      · simp only [ht] at hl
        rw [show max 1 n = n from by omega] at hl
        obtain ⟨a1, a2, a3, a4⟩ := lenS_of q1 q2
        obtain ⟨b1, b2, b3, b4⟩ := distS_of q3 q4
        obtain ⟨⟨s, v, m⟩, hL⟩ : ∃ y, y = lenS n := ⟨_, rfl⟩
        obtain ⟨⟨s', v', m'⟩, hD⟩ : ∃ y, y = distS d := ⟨_, rfl⟩
        rw [← hL] at a1 a2 a3 a4
        rw [← hD] at b1 b2 b3 b4
        simp only at a1 a2 a3 a4 b1 b2 b3 b4
        have htb : tbits (n, d, 0) = lcode (257 + s) ++ bitsOf v m ++ codeOf s' 5 5 ++ bitsOf v' m' := by
          unfold tbits
          rw [if_neg (by simp only; omega)]
          simp only
          rw [← hL, ← hD]
        rw [List.flatMap_cons, htb] at hl
        obtain ⟨rest, hrest⟩ : ∃ rest, rest = (toksFrom b f (p + n)).flatMap tbits ++ lcode 256 := ⟨_, rfl⟩
        have l1 : l = pre ++ lcode (257 + s) ++ (bitsOf v m ++ codeOf s' 5 5 ++ bitsOf v' m' ++ rest) := by rw [hl, hrest]; simp
        have l2 : l = (pre ++ lcode (257 + s)) ++ bitsOf v m ++ (codeOf s' 5 5 ++ bitsOf v' m' ++ rest) := by rw [hl, hrest]; simp
        have l3 : l = (pre ++ lcode (257 + s) ++ bitsOf v m) ++ codeOf s' 5 5 ++ (bitsOf v' m' ++ rest) := by rw [hl, hrest]; simp
        have l4 : l = (pre ++ lcode (257 + s) ++ bitsOf v m ++ codeOf s' 5 5) ++ bitsOf v' m' ++ rest := by rw [hl, hrest]; simp
        have hr := rn_sym (by omega) hbin l1
        have hv := num_bits hbin l2 a4
        have hd := rn_dist b1 hbin l3
        have hv' := num_bits hbin l4 b4
        have hle : pre.length ≤ 8 * (pack l).length := by rw [pack_length, l1, List.length_append, List.length_append]; omega
        have w2 := bits_left l2
        have w4 := bits_left l4
        have htl : (b.take p).length = p := by rw [List.length_take]; omega
        rw [sym_5 hle (by rw [hr]) (by rw [hr]; show (256 : Int) < ((257 + s : Nat) : Int); omega) (by rw [hr]; show ((257 + s : Nat) : Int) < 286; omega), hr]
        simp only
        rw [show (((257 + s : Nat) : Int) - 257).toNat = s from by omega]
        have P2 : pre.length + (lcode (257 + s)).length = (pre ++ lcode (257 + s)).length := by rw [List.length_append]
        have P3 : (pre ++ lcode (257 + s)).length + m = (pre ++ lcode (257 + s) ++ bitsOf v m).length := by simp only [List.length_append, bitsOf_length]
        have P4 : (pre ++ lcode (257 + s) ++ bitsOf v m).length + 5 = (pre ++ lcode (257 + s) ++ bitsOf v m ++ codeOf s' 5 5).length := by simp only [List.length_append, bitsOf_length, codeOf_length]
        have P5 : (pre ++ lcode (257 + s) ++ bitsOf v m ++ codeOf s' 5 5).length + m' = (pre ++ lcode (257 + s) ++ bitsOf v m ++ codeOf s' 5 5 ++ bitsOf v' m').length := by simp only [List.length_append, bitsOf_length, codeOf_length]
        have hrep : run (pack l) most (repR s fixD) (pre ++ lcode (257 + s)).length (b.take p) = .ok ((), (pre ++ lcode (257 + s) ++ bitsOf v m ++ codeOf s' 5 5 ++ bitsOf v' m').length, b.take (p + n)) := by
          rw [rep_3 (by rw [a2]; exact w2) (by rw [a2, P3, hd])]
          rw [a2, P3, hd]
          simp only
          rw [if_neg (by omega), Int.toNat_natCast, b2, P4, rep_4 (by omega), if_neg (by omega), hv, hv', a3, b3, if_neg (by rw [htl]; omega), if_neg (by rw [htl]; omega), P5, repn_take q3 n p q5 q6 q7]
        rw [P2, hrep]
        show run (pack l) most (symR fixL fixD g) _ _ = _
        exact ih (p + n) g _ (by omega) (by omega) (by omega) (by rw [l4, hrest, ← List.append_assoc])
    · obtain rfl : p = b.length := by omega
      rw [toksFrom, if_neg (by omega)] at hl
      exact last g pre (by omega) (by rw [hl]; simp)

theorem fxB_is (b : List Nat) : fxB (toks b) = (bitsOf 1 1 ++ bitsOf 1 2) ++ (toksFrom b b.length 0).flatMap tbits ++ lcode 256 := by
  unfold fxB fixTo toks
  rw [List.take_length]
theorem tbits_bin' (t : Nat × Nat × Nat) : Bin (tbits t) := by
  unfold tbits
  split
  · exact codeOf_bin _ _ _
  · exact (((codeOf_bin _ _ _).app (bitsOf_bin _ _)).app (codeOf_bin _ _ _)).app (bitsOf_bin _ _)
theorem flat_bin' : ∀ l : List (Nat × Nat × Nat), Bin (l.flatMap tbits)
  | [] => fun x hx => by cases hx
  | t :: r => by rw [List.flatMap_cons]; exact (tbits_bin' t).app (flat_bin' r)
theorem fxB_bin' (b : List Nat) : Bin (fxB (toks b)) := by
  rw [fxB_is]
  exact (((bitsOf_bin _ _).app (bitsOf_bin _ _)).app (flat_bin' _)).app (codeOf_bin _ _ _)
theorem inf_toks {b : List Nat} (hb : ∀ x ∈ b, x < 256) {most : Nat} (hm : b.length ≤ most) {F : Nat} (hF : b.length < F) : inf F (pack (fxB (toks b))) most = (b, (pack (fxB (toks b))).length, 0) := by
  have his := fxB_is b
  have hbin := fxB_bin' b
  obtain ⟨l, hl⟩ : ∃ l, l = fxB (toks b) := ⟨_, rfl⟩
  rw [← hl] at his hbin ⊢
  have hlen : 3 ≤ l.length := by rw [his]; simp [bitsOf_length]; omega
  have hp : 3 ≤ 8 * (pack l).length := by rw [pack_length]; omega
  have hbit : ∀ i, i < 3 → bitAt (pack l) i = [1, 1, 0].getD i 0 := fun i hi => by
    rw [bitAt_pack hbin, his, List.append_assoc, List.getD_eq_getElem?_getD, List.getElem?_append_left (by simp [bitsOf_length]; omega), ← List.getD_eq_getElem?_getD]
    rfl
  have n1 : num (pack l) 0 1 = 1 := by rw [num_one, hbit 0 (by omega)]; rfl
  have n2 : num (pack l) (0 + 1) 2 = 1 := by
    have b1 : bitAt (pack l) (0 + 1 + 0) = 1 := hbit 1 (by omega)
    have b2 : bitAt (pack l) (0 + 1 + 1) = 0 := hbit 2 (by omega)
    simp only [num, b1, b2]
  obtain ⟨G, rfl⟩ : ∃ G, F = G + 1 := ⟨F - 1, by omega⟩
  have hs := run_toks hb hbin hm b.length 0 (G + 1) (bitsOf 1 1 ++ bitsOf 1 2) (by omega) (by omega) (by omega) his
  rw [show (bitsOf 1 1 ++ bitsOf 1 2).length = 0 + 1 + 2 from rfl, List.take_zero] at hs
  have h : run (pack l) most (infR (G + 1) (G + 1)) 0 [] = .ok ((), l.length, b) := by
    rw [inf_step, blk_3 (by omega), n1, n2, if_neg (by decide), if_neg (by decide), if_pos rfl, hs]
    rfl
  rw [inf_is_ok h, pack_length]

theorem xor_16 (a : Nat) (ha : a < 65536) : a ^^^ 65535 = 65535 - a := by
  refine Nat.eq_of_testBit_eq (fun i => ?_)
  have e1 := Nat.testBit_two_pow_sub_succ (n := 16) (x := a) ha i
  rw [show 2 ^ 16 - (a + 1) = 65535 - a from by omega] at e1
  rw [Nat.testBit_xor, e1, show (65535 : Nat) = 2 ^ 16 - 1 from rfl, Nat.testBit_two_pow_sub_one]
  rcases Nat.lt_or_ge i 16 with g | g
  · simp [g]
  · have : a.testBit i = false := Nat.testBit_lt_two_pow (Nat.lt_of_lt_of_le (show a < 2 ^ 16 from ha) (Nat.pow_le_pow_right (by omega) g))
    simp [this, Nat.not_lt.2 g]
theorem inf_stored {b : List Nat} (hb : ∀ x ∈ b, x < 256) (hn : b.length ≤ 65535) {most : Nat} (hm : b.length ≤ most) {F : Nat} (hF : 0 < F) : inf F (stP b) most = (b, (stP b).length, 0) := by
  obtain ⟨xs, hxs⟩ : ∃ xs, xs = stP b := ⟨_, rfl⟩
  have hlen : xs.length = b.length + 5 := by rw [hxs, stP_len]
  have hby : ∀ x ∈ xs, x < 256 := by
    intro x hx
    rw [hxs] at hx
    unfold stP at hx
    rcases List.mem_append.1 hx with h | h
    · simp only [List.mem_cons, List.not_mem_nil, or_false] at h
      omega
    · exact hb x h
  have hg : ∀ i, i < 5 → xs.getD i 0 = [1, b.length % 256, b.length / 256, 255 - b.length % 256, 255 - b.length / 256].getD i 0 := fun i hi => by
    rw [hxs]
    unfold stP
    rw [List.getD_eq_getElem?_getD, List.getElem?_append_left (by simp; omega), ← List.getD_eq_getElem?_getD]
  have g0 : xs.getD 0 0 = 1 := hg 0 (by omega)
  have g1 : xs.getD (0 + 1) 0 = b.length % 256 := hg 1 (by omega)
  have g2 : xs.getD (0 + 1 + 1) 0 = b.length / 256 := hg 2 (by omega)
  have g3 : xs.getD 3 0 = 255 - b.length % 256 := hg 3 (by omega)
  have g4 : xs.getD (3 + 1) 0 = 255 - b.length / 256 := hg 4 (by omega)
  have hd : (xs.drop 5).take b.length = b := by
    rw [hxs]
    unfold stP
    rw [show (5 : Nat) = [1, b.length % 256, b.length / 256, 255 - b.length % 256, 255 - b.length / 256].length from rfl, List.drop_left, List.take_length]
  rw [← hxs]
  obtain ⟨n1, n2⟩ := num_1 xs 0 (by omega)
  rw [g0] at n1
  have m1 : num xs (8 * (0 + 1)) 16 = b.length := by rw [num_16 xs (0 + 1) (by omega) (by omega), g1, g2]; omega
  have m2 : num xs (8 * 3) 16 = b.length ^^^ 65535 := by rw [num_16 xs 3 (by omega) (by omega), g3, g4, xor_16 _ (by omega)]; omega
  obtain ⟨G, rfl⟩ : ∃ G, F = G + 1 := ⟨F - 1, by omega⟩
  have hal : (8 * 0 + 1 + 2 + 7) / 8 * 8 = 8 * (0 + 1) := by decide
  have h : run xs most (infR (G + 1) (G + 1)) (8 * 0) [] = .ok ((), 8 * (5 + b.length), b) := by
    rw [inf_step, blk_3 (by omega), n1, n2, if_neg (by omega), if_pos rfl]
    rw [copy_4 (by rw [hal]; omega) (by rw [hal, m1]; simp; omega), hal, m1, show 8 * (0 + 1) + 16 = 8 * 3 from rfl, m2, if_neg (by simp), show 8 * 3 + 16 = 8 * 5 from rfl, run_bytes xs most hby _ 5 [] (by omega) (by simp; omega), hd]
    rfl
  rw [inf_is_ok (show run xs most (infR (G + 1) (G + 1)) 0 [] = _ from h), hlen]
  congr 2
  omega
theorem inf_dfl {b : List Nat} (hb : ∀ x ∈ b, x < 256) (hn : b.length ≤ 65535) {most : Nat} (hm : b.length ≤ most) {F : Nat} (hF : b.length < F) : inf F (dfl b) most = (b, (dfl b).length, 0) ∧ (dfl b).length ≤ b.length + 5 := by
  have hs := stor_bytes hb hn
  unfold dfl
  split
  · rw [hs]
    exact ⟨inf_stored hb hn hm (by omega), by rw [stP_len]; omega⟩
  · rename_i h
    refine ⟨inf_toks hb hm hF, ?_⟩
    rw [hs, stP_len] at h
    omega
end SqInf

end Go.Proofs.YtpbijdoemdoijaaGreatDoor
end PkCa31_1
section PkCa31_2
/- A squeezed chunk's content, walked. (Written by gencolsq.py.) -/
namespace Go.Proofs.YtpbijdoemdoijaaGreatDoor
open Go.RowKit BitsPlain NumsPlain CrcPlain InfPlain
set_option linter.unusedVariables false

theorem stor_ge2 : ∀ (f : Nat) (acc xs : List Nat), xs.length < f → acc.length + 8 * xs.length ≤ (storF f acc xs).length
  | 0, acc, xs, h => by omega
  | f + 1, acc, xs, h => by
    have hH : ∀ last m, acc.length ≤ (pieceH acc last m).length := fun last m => by
      unfold pieceH alg
      simp only [List.length_append]
      omega
    simp only [storF]
    split
    · unfold pieceB
      have := hH 1 xs.length
      rw [List.length_append, flat8_len]
      omega
    · have ih := stor_ge2 f (pieceB acc 0 (xs.take 65535)) (xs.drop 65535) (by rw [List.length_drop]; omega)
      unfold pieceB at ih ⊢
      have := hH 0 (xs.take 65535).length
      rw [List.length_append, flat8_len] at ih
      have e1 : (xs.take 65535).length = 65535 := by rw [List.length_take]; omega
      have e2 : (xs.drop 65535).length = xs.length - 65535 := List.length_drop
      omega
theorem inf_any {C : List Nat} (hb : ∀ x ∈ C, x < 256) (hC : C.length ≤ 65536) (hl : (dfl C).length < C.length) {F : Nat} (hF : C.length < F) : inf F (dfl C) C.length = (C, (dfl C).length, 0) := by
  rcases Nat.lt_or_ge 65535 C.length with h | h
  · have hs : C.length ≤ (pack (storB C)).length := by
      have := stor_ge2 (C.length + 1) [] C (by omega)
      rw [pack_length]
      unfold storB
      omega
    have he : dfl C = pack (fxB (toks C)) := by
      unfold dfl at hl ⊢
      split
      · rename_i h2
        rw [if_pos h2] at hl
        omega
      · rfl
    rw [he]
    exact SqInf.inf_toks hb (Nat.le_refl _) hF
  · exact (SqInf.inf_dfl hb h (Nat.le_refl _) hF).1

set_option maxRecDepth 100000 in
set_option maxHeartbeats 4000000 in
theorem content_sq {w : World} (hO : Ordr w) {a : Option Addr} {n c k : Nat} {C : List Nat} (h : BytesAt w a n c ([k, 1] ++ pu C.length ++ dfl C)) (hk : k ≤ 4) (hC : C.length ≤ 65536) (hCb : ∀ x ∈ C, x < 256) (hl : (dfl C).length < C.length) :
    Calls Tryz.prog 86 #[.slice a n c] w fun e w' => ∃ a' c', e = .returned (.tuple #[.slice a' C.length c', .bool true]) ∧ BytesAt w' a' C.length c' C ∧ Below w.heap.size w w' := by
  have HN := Lib.hid (new_any h)
  have hlen := h.len
  have hp10 := pu_ten (n := C.length) (by omega)
  obtain ⟨p, hp⟩ : ∃ p, p = (pu C.length).length := ⟨_, rfl⟩
  have hinf := inf_any hCb hC hl (F := 8 * C.length + C.length + 1) (by omega)
  obtain ⟨m, hm⟩ : ∃ m, m = C.length := ⟨_, rfl⟩
  obtain ⟨D, hD⟩ : ∃ D, D = dfl C := ⟨_, rfl⟩
  obtain ⟨d, hd⟩ : ∃ d, d = D.length := ⟨_, rfl⟩
  rw [← hD] at h hl hinf HN hlen
  rw [← hd, ← hm] at hinf
  have hdm : d < m := by omega
  have hn1 : n ≤ 2 + p + d ∧ 2 + p + d ≤ n := by
    rw [← hlen]
    simp only [List.length_append, List.length_cons, List.length_nil]
    omega
  obtain ⟨xs, hxs⟩ : ∃ xs, xs = [k, 1] ++ pu C.length ++ D := ⟨_, rfl⟩
  have e1 : ccn xs 0 0 4 2 = (k, 1, 0) := by
    have := cn_at [] (n := k) (1 :: pu C.length ++ D) (most := 4) (above := 2) (by omega) (by omega)
    rw [pu_small (by omega)] at this
    rw [hxs]
    exact this
  have e2 : ccn xs 1 0 1 2 = (1, 2, 0) := by
    have := cn_at [k] (n := 1) (pu C.length ++ D) (most := 1) (above := 2) (by omega) (by omega)
    rw [pu_small (by omega)] at this
    rw [hxs]
    exact this
  have e3 : ccn xs 2 0 65536 2 = (m, 2 + p, 0) := by
    have := cn_at [k, 1] (n := C.length) D (most := 65536) (above := 2) (by omega) (by omega)
    rw [hxs, List.append_assoc, hm, hp]
    exact this
  have e4 : cb xs (2 + p) 0 (d : Int) = (D, 2 + p + d, 0) := by
    have := cb_all ([k, 1] ++ pu C.length) D
    rw [List.length_append, ← hp] at this
    rw [hxs, hd]
    exact this
  have hce : cend n (2 + p + d) 0 = 0 := by unfold cend; rw [if_pos rfl, if_neg (by omega)]
  have hsub : (n : Int) - ((2 + p : Nat) : Int) = (d : Int) := by omega
  obtain ⟨i3, hi3⟩ : ∃ i3, i3 = 2 + p := ⟨_, rfl⟩
  rw [← hi3] at e3 e4 hce hsub
  obtain ⟨i4, hi4⟩ : ∃ i4, i4 = i3 + d := ⟨_, rfl⟩
  rw [← hi4] at e4 hce
  have E1 := Lib.hid e1
  have E2 := Lib.hid e2
  have E3 := Lib.hid e3
  have E4 := Lib.hid e4
  have HCE := Lib.hid hce
  have hm6 : m ≤ 65536 := by omega
  have hp10 : p ≤ 10 := by omega
  have hi3n : i3 ≤ 12 := by omega
  have hn2 : n ≤ 70000 := by omega
  have HM := Lib.hid hm
  have HDD := Lib.hid hd
  have HINF := Lib.hid hinf
  have HO := Lib.hid hO
  have HLC := Lib.hid (show C.length = m from hm.symm)
  rw [← hxs] at HN
  rw [← hm]
  clear h e1 e2 e3 e4 hxs hlen hp hce hi3 hi4 hm hn1 hD hd hinf hO hl hCb hC
  go_enter Tryz.func86, Tryz.ntmps86
  go_wp2_with fail
  refine HN.out.mono ?_
  rintro e w1 ⟨B, a', c', rfl, hcur, hb1, hB, _⟩
  have HB1 := Lib.hid hb1
  have HBB := Lib.hid (show ∀ k, some B = some k → w.heap.size ≤ k from fun k hk => by cases hk; exact hB)
  have hnum := cnum_any hcur 4 (by omega) (by omega)
  rw [E1.out] at hnum
  have HNUM := Lib.hid hnum
  clear hcur hb1 hB hnum
  go_wp2_with fail
  refine HNUM.out.mono ?_
  rintro e w2 ⟨rfl, hcur, hg2⟩
  have HB2 := Lib.hid (HB1.out.grown hg2 HB1.out.size HBB.out)
  have hnum := cnum_any hcur 1 (by omega) (by omega)
  rw [E2.out] at hnum
  have HNUM2 := Lib.hid hnum
  clear hcur hg2 hnum
  go_wp2_with fail
  refine HNUM2.out.mono ?_
  rintro e w3 ⟨rfl, hcur, hg3⟩
  have HB3 := Lib.hid (HB2.out.grown hg3 HB2.out.size HBB.out)
  have hnum := cnum_any hcur 65536 (by omega) (by omega)
  rw [E3.out] at hnum
  have HNUM3 := Lib.hid hnum
  clear hcur hg3 hnum
  go_wp2_with fail
  refine HNUM3.out.mono ?_
  rintro e w4 ⟨rfl, hcur, hg4⟩
  have HB4 := Lib.hid (HB3.out.grown hg4 HB3.out.size HBB.out)
  have HAT := Lib.hid (at_any hcur)
  have hcb := cb_any hcur (d : Int) (by omega) (by omega)
  rw [E4.out] at hcb
  have HCB := Lib.hid hcb
  clear hcur hg4 hcb
  go_wp2_with fail
  refine HAT.out.mono ?_
  rintro e w5 ⟨rfl, rfl⟩
  go_wp2_with fail
  refine HCB.out.mono ?_
  rintro e w6 ⟨⟨a6, c6, rfl, h6⟩, hcur, hg6⟩
  rw [← HDD.out] at h6
  rw [← HDD.out]
  have HB6 := Lib.hid (HB4.out.grown hg6 HB4.out.size HBB.out)
  have hend := end_any hcur
  rw [HCE.out] at hend
  have HEND := Lib.hid hend
  have H6 := Lib.hid h6
  clear hcur hg6 h6 hend
  go_wp2_with fail
  refine HEND.out.mono ?_
  rintro e w7 ⟨rfl, q, rfl⟩
  have HB7 := Lib.hid (HB6.out.trans ((show Below w6.heap.size w6 (w6.drewN q) from ⟨rfl, rfl, rfl, Nat.le_refl _, fun _ _ => rfl⟩).mono HB6.out.size))
  have HIN := Lib.hid (inflate_any (H6.out.drewN q) (HO.out.below HB7.out) (8 * m + m + 1) m (by rw [← HDD.out]; omega) hm6 (by omega))
  go_wp2_with fail
  refine HIN.out.mono ?_
  intro e w8 hout
  obtain ⟨a8, c8, rfl, h8, hb8⟩ := hout.at2 HINF.out HLC.out (by omega)
  have HB8 := Lib.hid (HB7.out.trans (hb8.mono HB7.out.size))
  have H8 := Lib.hid h8
  clear hout h8 hb8
  go_wp2_with fail
  first | go_ret2 | go_ret
  exact ⟨a8, c8, rfl, H8.out, HB8.out⟩
end Go.Proofs.YtpbijdoemdoijaaGreatDoor
end PkCa31_2
