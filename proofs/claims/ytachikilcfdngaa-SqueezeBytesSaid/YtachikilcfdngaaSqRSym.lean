/- The document's symbols of lengths and distances (entrepotref07.length, distance), walked: the program's. -/
import Derived.Test.YtachikilcfdngaaSqRLen
namespace Go.Proofs.Ytachikilcfdngaa
open Go.RowKit BitsPlain
set_option linter.unusedVariables false

theorem lenS_says {n : Nat} (h3 : 3 ≤ n) (h : n < 258) : (lenS n).1 < 28 ∧ (lenB (lenS n).1).1 ≤ n ∧ lenS n = ((lenS n).1, n - (lenB (lenS n).1).1, (lenB (lenS n).1).2) ∧ ∀ s, s < 28 → (lenS n).1 < s → n < (lenB s).1 := by
  have : ∀ m, m < 255 → (lenS (m + 3)).1 < 28 ∧ (lenB (lenS (m + 3)).1).1 ≤ (m + 3) ∧ lenS (m + 3) = ((lenS (m + 3)).1, (m + 3) - (lenB (lenS (m + 3)).1).1, (lenB (lenS (m + 3)).1).2) ∧ ∀ s, s < 28 → (lenS (m + 3)).1 < s → (m + 3) < (lenB s).1 := by decide +kernel
  obtain ⟨m, rfl⟩ : ∃ m, n = m + 3 := ⟨n - 3, by omega⟩
  exact this m (by omega)
theorem db_tab : ∀ x, x < 14 → db (2 * x + 2) = 1 + 2 * 2 ^ x ∧ db (2 * x + 3) = 1 + 3 * 2 ^ x := by decide +kernel
theorem db_mono {a : Nat} : ∀ d, db a ≤ db (a + d)
  | 0 => Nat.le_refl _
  | d + 1 => by have := db_mono (a := a) d; have e : db (a + (d + 1)) = db (a + d) + 2 ^ exB (a + d) := rfl; have := Nat.zero_le (2 ^ exB (a + d)); omega
theorem distS_says {n : Nat} (h1 : 1 ≤ n) (h : n ≤ 32768) : (distS n).1 < 30 ∧ db (distS n).1 ≤ n ∧ distS n = ((distS n).1, n - db (distS n).1, exB (distS n).1) ∧ ∀ s, (distS n).1 < s → n < db s := by
  obtain ⟨m, hm⟩ : ∃ m, m = n - 1 := ⟨_, rfl⟩
  have hx : ∀ y, y < lx 4 m → 4 * 2 ^ y ≤ m := fun y hy => xOf_le 4 m 16 0 y (by omega) hy
  have hg : m < 4 * 2 ^ lx 4 m := xOf_gt 4 m 16 0 (by simp; omega)
  have hx13 : lx 4 m ≤ 13 := xOf_most 4 m 13 (by simp; omega) 16 0 (by omega)
  have he : distS n = (2 * lx 4 m + m / 2 ^ lx 4 m, m % 2 ^ lx 4 m, lx 4 m) := by unfold distS; rw [hm]
  obtain ⟨x, hxe⟩ : ∃ x, x = lx 4 m := ⟨_, rfl⟩
  rw [← hxe] at hx hg hx13 he
  clear hxe
  obtain ⟨q, hq⟩ : ∃ q, q = m / 2 ^ x := ⟨_, rfl⟩
  obtain ⟨r, hr⟩ : ∃ r, r = m % 2 ^ x := ⟨_, rfl⟩
  have hdm : 2 ^ x * q + r = m := by rw [hq, hr]; exact Nat.div_add_mod _ _
  have hrl : r < 2 ^ x := by rw [hr]; exact Nat.mod_lt _ (Nat.two_pow_pos _)
  rw [← hq, ← hr] at he
  have hq4 : q < 4 := by rw [hq]; exact (Nat.div_lt_iff_lt_mul (Nat.two_pow_pos _)).2 hg
  have key : db (2 * x + q) = 1 + q * 2 ^ x ∧ exB (2 * x + q) = x := by
    rcases Nat.eq_zero_or_pos x with h0 | hp
    · subst h0
      have t : ∀ q, q < 4 → db (2 * 0 + q) = 1 + q * 2 ^ 0 ∧ exB (2 * 0 + q) = 0 := by decide +kernel
      exact t q hq4
    · have hq2 : 2 ≤ q := by
        have h4 := hx (x - 1) (by omega)
        rw [hq, Nat.le_div_iff_mul_le (Nat.two_pow_pos _)]
        have e : 2 ^ x = 2 * 2 ^ (x - 1) := by rw [← Nat.pow_succ', Nat.succ_eq_add_one, Nat.sub_add_cancel hp]
        rw [e]
        omega
      have ht := db_tab x (by omega)
      have h23 : q = 2 ∨ q = 3 := by omega
      refine ⟨?_, ?_⟩
      · rcases h23 with e | e
        · rw [e]; exact ht.1
        · rw [e]; exact ht.2
      · unfold exB
        rw [if_neg (by omega)]
        omega
  rw [he]
  simp only
  rw [key.1, key.2]
  have hmul : q * 2 ^ x = 2 ^ x * q := Nat.mul_comm _ _
  refine ⟨by omega, by omega, ?_, fun s hs => ?_⟩
  · rw [show n - (1 + q * 2 ^ x) = r from by omega]
  · have h5 := db_mono (a := 2 * x + q + 1) (s - (2 * x + q + 1))
    rw [show 2 * x + q + 1 + (s - (2 * x + q + 1)) = s from by omega] at h5
    have h6 : db (2 * x + q + 1) = db (2 * x + q) + 2 ^ exB (2 * x + q) := rfl
    rw [key.1, key.2] at h6
    omega

set_option maxRecDepth 100000 in
set_option maxHeartbeats 2000000 in
theorem rlength_any {w : World} {n : Nat} (h3 : 3 ≤ n) (h258 : n ≤ 258) :
    Calls Try.prog 56 #[.int .i64 (n : Int)] w fun e w' => e = .returned (.tuple #[.int .i64 ((lenS n).1 : Int), .int .i64 ((lenS n).2.1 : Int), .int .i64 ((lenS n).2.2 : Int)]) ∧ w = w' := by
  by_cases hn : n = 258
  · subst hn
    have HL := Lib.hid (show lenS 258 = (28, 0, 0) from rfl)
    go_enter Try.func56, Try.ntmps56
    go_wp2_with fail
    go_ret3
    rw [HL.out]
    exact ⟨rfl, rfl⟩
  · obtain ⟨q1, q2, q3, q4⟩ := lenS_says h3 (by omega)
    have hni : ((n : Int) == 258) = false := by rw [beq_eq_false_iff_ne]; omega
    obtain ⟨T, hT⟩ : ∃ T, T = (lenS n).1 := ⟨_, rfl⟩
    rw [← hT] at q1 q2 q3 q4
    have H2 := Lib.hid q2
    have H3 := Lib.hid q3
    have H4 := Lib.hid q4
    clear q2 q3 q4 hT hn
    go_enter Try.func56, Try.ntmps56
    go_wp2_with fail
    go_loopw [5] (fun s5 wr => ∃ s : Nat, T ≤ s ∧ s ≤ 27 ∧ s5 = .int .i64 (s : Int) ∧ Hid (wr = w)) (fun s5 _ => (intOf s5).toNat)
    case atStart => exact ⟨27, by omega, by omega, rfl, Lib.hid rfl⟩
    case round =>
      obtain ⟨s, hs1, hs2, rfl, HW⟩ := hrel
      rename World => wr
      have HC := Lib.hid (rlen06_any (w := wr) (s := s) (by omega))
      obtain ⟨b, hb⟩ : ∃ b, b = (lenB s).1 := ⟨_, rfl⟩
      obtain ⟨m, hm⟩ : ∃ m, m = (lenB s).2 := ⟨_, rfl⟩
      rw [← hb, ← hm] at HC
      by_cases hst : T < s
      · have hbn := H4.out s (by omega) hst
        rw [← hb] at hbn
        have hi1 : ¬ (b : Int) ≤ (n : Int) := by omega
        have hz : ((s : Int) == 0) = false := by rw [beq_eq_false_iff_ne]; omega
        have hi3 : ¬ b ≤ n := by omega
        obtain ⟨r, hr1, hr2⟩ : ∃ r, r + 1 ≤ s ∧ s ≤ r + 1 := ⟨s - 1, by omega, by omega⟩
        have hq2 : (s : Int) - 1 = (r : Int) := by omega
        clear hb hm
        go_wp2_with fail
        refine HC.out.mono ?_
        rintro e w2 ⟨rfl, hww⟩
        subst hww
        go_wp2_with fail
        go_roundw
        case rel => exact ⟨r, by omega, by omega, by go_num, HW⟩
        case measure => simp [intOf]; omega
      · have hTs : T = s := by omega
        have HE := Lib.hid (show lenS n = (s, n - b, m) from by rw [hb, hm, ← hTs]; exact H3.out)
        have hbn : b ≤ n := by rw [hb, ← hTs]; exact H2.out
        have hi1 : (b : Int) ≤ (n : Int) := by omega
        obtain ⟨v, hv1, hv2⟩ : ∃ v, v + b ≤ n ∧ n ≤ v + b := ⟨n - b, by omega, by omega⟩
        have hvi : (n : Int) - (b : Int) = (v : Int) := by omega
        clear hb hm hTs hst
        go_wp2_with fail
        refine HC.out.mono ?_
        rintro e w2 ⟨rfl, hww⟩
        subst hww
        go_wp2_with fail
        go_ret3
        rw [HE.out]
        simp only
        rw [show n - b = v from by omega]
        exact ⟨by go_num, HW.out.symm⟩

set_option maxRecDepth 100000 in
set_option maxHeartbeats 2000000 in
theorem rdistance_any {w : World} {n : Nat} (h1 : 1 ≤ n) (h2 : n ≤ 32768) :
    Calls Try.prog 57 #[.int .i64 (n : Int)] w fun e w' => e = .returned (.tuple #[.int .i64 ((distS n).1 : Int), .int .i64 ((distS n).2.1 : Int), .int .i64 ((distS n).2.2 : Int)]) ∧ w = w' := by
  obtain ⟨q1, q2, q3, q4⟩ := distS_says h1 h2
  obtain ⟨T, hT⟩ : ∃ T, T = (distS n).1 := ⟨_, rfl⟩
  rw [← hT] at q1 q2 q3 q4
  have H2 := Lib.hid q2
  have H3 := Lib.hid q3
  have H4 := Lib.hid q4
  clear q2 q3 q4 hT
  go_enter Try.func57, Try.ntmps57
  go_wp2_with fail
  go_loopw [5] (fun s5 wr => ∃ s : Nat, T ≤ s ∧ s ≤ 29 ∧ s5 = .int .i64 (s : Int) ∧ Hid (wr = w)) (fun s5 _ => (intOf s5).toNat)
  case atStart => exact ⟨29, by omega, by omega, rfl, Lib.hid rfl⟩
  case round =>
    obtain ⟨s, hs1, hs2, rfl, HW⟩ := hrel
    rename World => wr
    have HC := Lib.hid (rdist06_any (w := wr) (d := s) (by omega))
    have hble := (db_le (d := s) (by omega)).1
    obtain ⟨b, hb⟩ : ∃ b, b = db s := ⟨_, rfl⟩
    obtain ⟨m, hm⟩ : ∃ m, m = exB s := ⟨_, rfl⟩
    rw [← hb, ← hm] at HC
    rw [← hb] at hble
    by_cases hst : T < s
    · have hbn := H4.out s hst
      rw [← hb] at hbn
      have hi1 : ¬ (b : Int) ≤ (n : Int) := by omega
      have hz : ((s : Int) == 0) = false := by rw [beq_eq_false_iff_ne]; omega
      have hi3 : ¬ b ≤ n := by omega
      obtain ⟨r, hr1, hr2⟩ : ∃ r, r + 1 ≤ s ∧ s ≤ r + 1 := ⟨s - 1, by omega, by omega⟩
      have hq2 : (s : Int) - 1 = (r : Int) := by omega
      clear hb hm
      go_wp2_with fail
      refine HC.out.mono ?_
      rintro e w2 ⟨rfl, hww⟩
      subst hww
      go_wp2_with fail
      go_roundw
      case rel => exact ⟨r, by omega, by omega, by go_num, HW⟩
      case measure => simp [intOf]; omega
    · have hTs : T = s := by omega
      have HE := Lib.hid (show distS n = (s, n - b, m) from by rw [hb, hm, ← hTs]; exact H3.out)
      have hbn : b ≤ n := by rw [hb, ← hTs]; exact H2.out
      have hi1 : (b : Int) ≤ (n : Int) := by omega
      obtain ⟨v, hv1, hv2⟩ : ∃ v, v + b ≤ n ∧ n ≤ v + b := ⟨n - b, by omega, by omega⟩
      have hvi : (n : Int) - (b : Int) = (v : Int) := by omega
      clear hb hm hTs hst
      go_wp2_with fail
      refine HC.out.mono ?_
      rintro e w2 ⟨rfl, hww⟩
      subst hww
      go_wp2_with fail
      go_ret3
      rw [HE.out]
      simp only
      rw [show n - b = v from by omega]
      exact ⟨by go_num, HW.out.symm⟩
end Go.Proofs.Ytachikilcfdngaa
