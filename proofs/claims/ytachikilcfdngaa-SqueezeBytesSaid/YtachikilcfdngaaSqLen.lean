/- A length's and a distance's symbol, walked. -/
import Derived.Test.YtachikilcfdngaaSqLet
import Derived.OwnWalk
namespace Go.Proofs.Ytachikilcfdngaa
open Go.RowKit BitsPlain
set_option linter.unusedVariables false

/-- the least x with m < k * 2^x -/
def xOf (k m : Nat) : Nat → Nat → Nat
  | 0, x => x
  | f + 1, x => if k * 2 ^ x ≤ m then xOf k m f (x + 1) else x
def lx (k m : Nat) : Nat := xOf k m 16 0
theorem xOf_ge (k m : Nat) : ∀ f x, x ≤ xOf k m f x
  | 0, x => Nat.le_refl _
  | f + 1, x => by
    simp only [xOf]
    split
    · have := xOf_ge k m f (x + 1); omega
    · omega
theorem xOf_le (k m : Nat) : ∀ f x y, x ≤ y → y < xOf k m f x → k * 2 ^ y ≤ m
  | 0, x, y, h, g => by simp only [xOf] at g; omega
  | f + 1, x, y, h, g => by
    simp only [xOf] at g
    split at g
    · rename_i hc
      rcases Nat.lt_or_ge x y with e | e
      · exact xOf_le k m f (x + 1) y e g
      · obtain rfl : x = y := by omega
        exact hc
    · omega
theorem xOf_gt (k m : Nat) : ∀ f x, m < k * 2 ^ (x + f) → m < k * 2 ^ xOf k m f x
  | 0, x, h => h
  | f + 1, x, h => by
    simp only [xOf]
    split
    · exact xOf_gt k m f (x + 1) (by rw [show x + 1 + f = x + (f + 1) from by omega]; exact h)
    · rename_i hc; omega
theorem xOf_most (k m t : Nat) (h : m < k * 2 ^ t) : ∀ f x, x ≤ t → xOf k m f x ≤ t
  | 0, x, g => g
  | f + 1, x, g => by
    simp only [xOf]
    split
    · rename_i hc
      rcases Nat.lt_or_ge x t with e | e
      · exact xOf_most k m t h f (x + 1) e
      · obtain rfl : x = t := by omega
        omega
    · exact g

/-- a length's symbol, what it has more, how many bits -/
def lenS (n : Nat) : Nat × Nat × Nat := if n = 258 then (28, 0, 0) else (4 * lx 8 (n - 3) + (n - 3) / 2 ^ lx 8 (n - 3), (n - 3) % 2 ^ lx 8 (n - 3), lx 8 (n - 3))
/-- a distance's -/
def distS (n : Nat) : Nat × Nat × Nat := (2 * lx 4 (n - 1) + (n - 1) / 2 ^ lx 4 (n - 1), (n - 1) % 2 ^ lx 4 (n - 1), lx 4 (n - 1))

theorem pow16 {x : Nat} (h : x ≤ 16) : 1 ≤ 2 ^ x ∧ 2 ^ x ≤ 65536 := ⟨Nat.one_le_two_pow, by
  calc 2 ^ x ≤ 2 ^ 16 := Nat.pow_le_pow_right (by omega) h
    _ = 65536 := rfl⟩
theorem and_mask (m x : Nat) (hm : m < 4294967296) (hx : x ≤ 16) : bits .and .i64 (m : Int) (((2 ^ x : Nat) : Int) - 1) = ((m % 2 ^ x : Nat) : Int) := by
  have h := pow16 hx
  rw [← Nat.and_two_pow_sub_one_eq_mod]
  have e1 : ((2 ^ x : Nat) : Int) - 1 = ((2 ^ x - 1 : Nat) : Int) := by omega
  rw [e1]
  have hx2 : m &&& (2 ^ x - 1) ≤ m := Nat.and_le_left
  show IntKind.i64.wrap ((BitVec.ofInt 64 (m : Int) &&& BitVec.ofInt 64 ((2 ^ x - 1 : Nat) : Int)).toNat : Int) = _
  have o1 : (BitVec.ofInt 64 (m : Int)).toNat = m := by rw [BitVec.ofInt_natCast, BitVec.toNat_ofNat]; exact Nat.mod_eq_of_lt (by omega)
  have o2 : (BitVec.ofInt 64 ((2 ^ x - 1 : Nat) : Int)).toNat = 2 ^ x - 1 := by rw [BitVec.ofInt_natCast, BitVec.toNat_ofNat]; exact Nat.mod_eq_of_lt (by omega)
  rw [BitVec.toNat_and, o1, o2, IntKind.wrap_i64]
  omega

set_option maxRecDepth 100000 in
set_option maxHeartbeats 2000000 in
theorem slength_any {w : World} {n : Nat} (h3 : 3 ≤ n) (h258 : n ≤ 258) :
    Calls Try.prog 51 #[.int .i64 (n : Int)] w fun e w' => e = .returned (.tuple #[.int .i64 ((lenS n).1 : Int), .int .i64 ((lenS n).2.1 : Int), .int .i64 ((lenS n).2.2 : Int)]) ∧ ∃ q, w' = w.drewN q := by
  by_cases hn : n = 258
  · subst hn
    have HL := Lib.hid (show lenS 258 = (28, 0, 0) from rfl)
    go_enter Try.func51, Try.ntmps51
    go_wp2_with fail
    go_ret3
    rw [HL.out]
    exact ⟨rfl, 0, rfl⟩
  · obtain ⟨m, hm⟩ : ∃ m, n = m + 3 := ⟨n - 3, by omega⟩
    have hm2 : m < 255 := by omega
    have HL := Lib.hid (show lenS n = (4 * lx 8 m + m / 2 ^ lx 8 m, m % 2 ^ lx 8 m, lx 8 m) from by unfold lenS; rw [if_neg hn, hm]; rfl)
    have hni : (n : Int) ≠ 258 := by omega
    have HX : Hid (∀ y, y < lx 8 m → 8 * 2 ^ y ≤ m) := Lib.hid (fun y hy => xOf_le 8 m 16 0 y (by omega) hy)
    have HG := Lib.hid (show m < 8 * 2 ^ lx 8 m from xOf_gt 8 m 16 0 (by simp; omega))
    have hx5 : lx 8 m ≤ 5 := xOf_most 8 m 5 (by simp; omega) 16 0 (by omega)
    obtain ⟨t, hte⟩ : ∃ t, t = lx 8 m := ⟨_, rfl⟩
    rw [← hte] at HL HX HG hx5
    have hmi : (n : Int) - 3 = (m : Int) := by omega
    have HM := Lib.hid hmi
    clear hte h3 h258 hn
    go_enter Try.func51, Try.ntmps51
    go_wp2_with fail
    go_loopw [5] (fun s5 wr => ∃ k q : Nat, k ≤ t ∧ s5 = .int .i64 k ∧ Hid (wr = w.drewN q)) (fun s5 _ => t - (intOf s5).toNat)
    case atStart => exact ⟨0, 0, by omega, rfl, Lib.hid rfl⟩
    case round =>
      obtain ⟨k, q, hk, rfl, HW⟩ := hrel
      rename World => wr
      have HWW := HW.out
      subst HWW
      have hp := pow16 (x := k) (by omega)
      obtain ⟨p, hpe⟩ : ∃ p, p = 2 ^ k := ⟨_, rfl⟩
      rw [← hpe] at hp
      have hpi : (2 : Int) ^ k = (p : Int) := by rw [hpe]; push_cast; rfl
      by_cases hkt : k < t
      · have h1 : 8 * p ≤ m := by rw [hpe]; exact HX.out k hkt
        have HP := Lib.hid hpe
        clear hpe
        go_wp2_with fail
        go_roundw
        case rel => exact ⟨k + 1, _, by omega, by go_num, Lib.hid (by first | rfl | rw [World.drewN_drewN])⟩
        case measure => simp [intOf]; omega
      · obtain rfl : k = t := by omega
        have h1 : m < 8 * p := by rw [hpe]; exact HG.out
        have ha := and_mask m k (by omega) (by omega)
        rw [← hpe] at ha
        obtain ⟨d, hd⟩ : ∃ d, d = m / p := ⟨_, rfl⟩
        obtain ⟨r, hr⟩ : ∃ r, r = m % p := ⟨_, rfl⟩
        rw [← hr] at ha
        have hd1 : ((m : Int) / (p : Int)) = (d : Int) := by rw [hd]; push_cast; rfl
        have hdl : d ≤ m := by rw [hd]; exact Nat.div_le_self _ _
        have HDD := Lib.hid (show m / 2 ^ k = d by rw [hd, hpe])
        have HRR := Lib.hid (show m % 2 ^ k = r by rw [hr, hpe])
        clear hd hr
        have HP := Lib.hid hpe
        clear hpe
        go_wp2_with fail
        go_region
        go_wp2_with fail
        go_ret3
        rw [HL.out, HDD.out, HRR.out]
        exact ⟨by go_num, q + 1, rfl⟩

set_option maxRecDepth 100000 in
set_option maxHeartbeats 2000000 in
theorem sdistance_any {w : World} {n : Nat} (h1 : 1 ≤ n) (h2 : n ≤ 32768) :
    Calls Try.prog 52 #[.int .i64 (n : Int)] w fun e w' => e = .returned (.tuple #[.int .i64 ((distS n).1 : Int), .int .i64 ((distS n).2.1 : Int), .int .i64 ((distS n).2.2 : Int)]) ∧ ∃ q, w' = w.drewN q := by
  · obtain ⟨m, hm⟩ : ∃ m, n = m + 1 := ⟨n - 1, by omega⟩
    have hm2 : m < 32768 := by omega
    have HL := Lib.hid (show distS n = (2 * lx 4 m + m / 2 ^ lx 4 m, m % 2 ^ lx 4 m, lx 4 m) from by unfold distS; rw [hm]; rfl)
    have HX : Hid (∀ y, y < lx 4 m → 4 * 2 ^ y ≤ m) := Lib.hid (fun y hy => xOf_le 4 m 16 0 y (by omega) hy)
    have HG := Lib.hid (show m < 4 * 2 ^ lx 4 m from xOf_gt 4 m 16 0 (by simp; omega))
    have hx5 : lx 4 m ≤ 13 := xOf_most 4 m 13 (by simp; omega) 16 0 (by omega)
    obtain ⟨t, hte⟩ : ∃ t, t = lx 4 m := ⟨_, rfl⟩
    rw [← hte] at HL HX HG hx5
    have hmi : (n : Int) - 1 = (m : Int) := by omega
    have HM := Lib.hid hmi
    clear hte h1 h2
    go_enter Try.func52, Try.ntmps52
    go_wp2_with fail
    go_loopw [5] (fun s5 wr => ∃ k q : Nat, k ≤ t ∧ s5 = .int .i64 k ∧ Hid (wr = w.drewN q)) (fun s5 _ => t - (intOf s5).toNat)
    case atStart => exact ⟨0, 0, by omega, rfl, Lib.hid rfl⟩
    case round =>
      obtain ⟨k, q, hk, rfl, HW⟩ := hrel
      rename World => wr
      have HWW := HW.out
      subst HWW
      have hp := pow16 (x := k) (by omega)
      obtain ⟨p, hpe⟩ : ∃ p, p = 2 ^ k := ⟨_, rfl⟩
      rw [← hpe] at hp
      have hpi : (2 : Int) ^ k = (p : Int) := by rw [hpe]; push_cast; rfl
      by_cases hkt : k < t
      · have h1 : 4 * p ≤ m := by rw [hpe]; exact HX.out k hkt
        have HP := Lib.hid hpe
        clear hpe
        go_wp2_with fail
        go_roundw
        case rel => exact ⟨k + 1, _, by omega, by go_num, Lib.hid (by first | rfl | rw [World.drewN_drewN])⟩
        case measure => simp [intOf]; omega
      · obtain rfl : k = t := by omega
        have h1 : m < 4 * p := by rw [hpe]; exact HG.out
        have ha := and_mask m k (by omega) (by omega)
        rw [← hpe] at ha
        obtain ⟨d, hd⟩ : ∃ d, d = m / p := ⟨_, rfl⟩
        obtain ⟨r, hr⟩ : ∃ r, r = m % p := ⟨_, rfl⟩
        rw [← hr] at ha
        have hd1 : ((m : Int) / (p : Int)) = (d : Int) := by rw [hd]; push_cast; rfl
        have hdl : d ≤ m := by rw [hd]; exact Nat.div_le_self _ _
        have HDD := Lib.hid (show m / 2 ^ k = d by rw [hd, hpe])
        have HRR := Lib.hid (show m % 2 ^ k = r by rw [hr, hpe])
        clear hd hr
        have HP := Lib.hid hpe
        clear hpe
        go_wp2_with fail
        go_region
        go_wp2_with fail
        go_ret3
        rw [HL.out, HDD.out, HRR.out]
        exact ⟨by go_num, q + 1, rfl⟩
end Go.Proofs.Ytachikilcfdngaa
