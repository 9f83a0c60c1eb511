/- Texts put together by packtpl2.py: NRU, NI. -/
import Derived.Test.YtpbijdoemdoijaaGreatDoorPkCa7
section PkCa8_0
/- The document's U, walked: at any place of any bytes it answers what the plain function says. -/
namespace Go.Proofs.YtpbijdoemdoijaaGreatDoor
open Go.RowKit NumsPlain
set_option linter.unusedVariables false

namespace NumsPlain
/-- the value of the first k digits -/
def val (ys : List Nat) : Nat → Nat
  | 0 => 0
  | k + 1 => val ys k + ys.getD k 0 % 128 * 128 ^ k
theorem val_lt (ys : List Nat) : ∀ k, val ys k < 128 ^ k
  | 0 => by simp [val]
  | k + 1 => by
    have h := val_lt ys k
    have h1 : ys.getD k 0 % 128 * 128 ^ k ≤ 127 * 128 ^ k := Nat.mul_le_mul_right _ (by omega)
    have h2 : (128 : Nat) ^ (k + 1) = 128 ^ k * 128 := Nat.pow_succ ..
    simp only [val]
    omega
theorem val_u64 (ys : List Nat) (k : Nat) (hk : k ≤ 9) (h9 : k = 9 → ys.getD k 0 ≤ 1) : val ys (k + 1) < 18446744073709551616 := by
  rcases Nat.lt_or_ge k 9 with g | g
  · have h := val_lt ys (k + 1)
    have h1 : (128 : Nat) ^ (k + 1) ≤ 128 ^ 9 := Nat.pow_le_pow_right (by omega) (by omega)
    have h3 : (128 : Nat) ^ 9 < 18446744073709551616 := by decide
    omega
  · obtain rfl : k = 9 := by omega
    have h := val_lt ys 9
    have h1 := h9 rfl
    have h3 : (128 : Nat) ^ 9 = 9223372036854775808 := by decide
    simp only [val] at h ⊢
    rw [h3] at h ⊢
    have h2 : ys.getD 9 0 % 128 * 9223372036854775808 ≤ 1 * 9223372036854775808 := Nat.mul_le_mul_right _ (by omega)
    omega
end NumsPlain

theorem rest_step {N n d j v vj : Nat} (h : n * 128 ^ (j + 1) + vj = v) (hj : vj = N + d * 128 ^ j) (hv : v < 18446744073709551616) : n * 128 + d < 18446744073709551616 ∧ (n * 128 + d) * 128 ^ j + N = v := by
  have e1 : n * 128 ^ (j + 1) = n * 128 * 128 ^ j := by rw [Nat.pow_succ, Nat.mul_comm (128 ^ j) 128, Nat.mul_assoc]
  have e2 : (n * 128 + d) * 128 ^ j = n * 128 * 128 ^ j + d * 128 ^ j := Nat.add_mul ..
  have hp : 1 ≤ 128 ^ j := Nat.one_le_pow _ _ (by omega)
  have e3 : n * 128 + d ≤ (n * 128 + d) * 128 ^ j := Nat.le_mul_of_pos_right _ (by omega)
  constructor
  · omega
  · omega

set_option maxRecDepth 100000 in
set_option maxHeartbeats 4000000 in
theorem ru_any {a : Option Addr} {n c : Nat} {xs : List Nat} {w : World} (h : BytesAt w a n c xs) (at_ : Int) :
    Calls Tryz.prog 22 #[.slice a n c, .int .i64 at_] w fun e w' => e = .returned (ruV (ru xs at_)) ∧ w = w' := by
  have hlen := h.len
  have hcap := h.cap
  have hcm := h.capm
  have hrm := h.reach
  by_cases hneg : at_ < 0
  · have hr : ru xs at_ = (0, 0, 3) := by unfold ru; rw [if_pos hneg]
    have HR := Lib.hid hr
    clear hr h
    have d1 : decide (at_ < 0) = true := by simp; omega
    go_enter Tryz.func22, Tryz.ntmps22
    go_wp2_with fail
    go_ret3
    exact ⟨by rw [HR.out]; rfl, rfl⟩
  · obtain ⟨i, rfl⟩ := Int.eq_ofNat_of_zero_le (show 0 ≤ at_ by omega)
    by_cases hin : i < n
    · obtain ⟨b, off, rfl, _, hcell⟩ := h.cells (by omega)
      have hbyte := h.byte
      have HC := Lib.hid hcell
      have HB := Lib.hid hbyte
      clear h hcell hbyte
      have hget : ∀ k, k < n - i → xs.getD (i + k) 0 < 256 := by
        intro k hk
        have h1 : i + k < xs.length := by omega
        have : xs.getD (i + k) 0 = xs[i + k] := by simp [h1]
        rw [this]
        exact HB.out _ (List.getElem_mem h1)
      have hdr : ∀ k, (xs.drop i).getD k 0 = xs.getD (i + k) 0 := by intro k; simp [List.getD]
      have HG := Lib.hid hget
      have HDR := Lib.hid hdr
      have HLEN := Lib.hid hlen
      clear hget hdr hlen
      go_enter Tryz.func22, Tryz.ntmps22
      go_wp2_with fail
      go_loop [7] (fun sk => ∃ k : Nat, k ≤ n - i ∧ k ≤ 9 ∧ sk = .int .i64 k ∧ Hid (ru xs (i : Int) = uu (val (xs.drop i) k) k (xs.drop (i + k)))) (fun sk => n - i - (intOf sk).toNat)
      case atStart => exact ⟨0, by omega, by omega, rfl, Lib.hid (ru_nat xs i)⟩
      case round =>
        obtain ⟨k, hk, hk9, rfl, HU⟩ := hrel
        by_cases hkn : k < n - i
        · have hc0 := HC.out (i + k) (by omega)
          obtain ⟨x, hx⟩ : ∃ x, x = xs.getD (i + k) 0 := ⟨_, rfl⟩
          have hx256 : x < 256 := by rw [hx]; exact HG.out k hkn
          rw [← hx] at hc0
          have hd : xs.drop (i + k) = x :: xs.drop (i + (k + 1)) := by
            have h1 : i + k < xs.length := by have := HLEN.out; omega
            rw [List.drop_eq_getElem_cons h1, hx]; simp [h1, Nat.add_assoc]
          have hu := HU.out
          rw [hd] at hu
          simp only [uu] at hu
          have hv : val (xs.drop i) (k + 1) = val (xs.drop i) k + x % 128 * 128 ^ k := by simp only [val]; rw [HDR.out k, ← hx]
          have HV := Lib.hid hv
          have HX := Lib.hid hx
          clear HU hx hd hv
          by_cases h9 : k = 9
          · have q9 : ((k : Int) == 9) = true := by rw [beq_iff_eq]; omega
            have l9 : ¬ (k : Int) < 9 := by omega
            by_cases hx1 : 1 < x
            · have hr : ru xs (i : Int) = (0, 0, 4) := by rw [hu, if_pos ⟨h9, hx1⟩]
              have HR := Lib.hid hr
              clear hu hr h9
              go_wp2_with fail
              go_ret3
              exact ⟨by rw [HR.out]; rfl, rfl⟩
            · by_cases hx0 : x = 0
              · have hr : ru xs (i : Int) = (0, 0, 4) := by rw [hu, if_neg (by omega), if_neg (by omega), if_pos ⟨hx0, by omega⟩]
                have z0 : ((x : Int) == 0) = true := by rw [beq_iff_eq]; omega
                have p0 : (0 : Int) < (k : Int) := by omega
                have HR := Lib.hid hr
                clear hu hr h9 hx0
                go_wp2_with fail
                go_ret3
                exact ⟨by rw [HR.out]; rfl, rfl⟩
              · have z0 : ((x : Int) == 0) = false := by rw [beq_eq_false_iff_ne]; omega
                have p0 : (0 : Int) < (k : Int) := by omega
                have hr : ru xs (i : Int) = (val (xs.drop i) (k + 1), k + 1, 0) := by rw [hu, if_neg (by omega), if_neg (by omega), if_neg (by omega), HV.out]
                have hvu := val_u64 (xs.drop i) k hk9 (fun e => by rw [HDR.out k, ← HX.out]; omega)
                have HR := Lib.hid hr
                have HVU := Lib.hid hvu
                clear hu hr hvu h9
                go_wp2_with fail
                go_loop [9, 10] (fun sn sj => ∃ (m j : Nat), j ≤ k + 1 ∧ sj = .int .i64 ((j : Int) - 1) ∧ sn = .int .u64 m ∧ Hid (m * 128 ^ j + val (xs.drop i) j = val (xs.drop i) (k + 1))) (fun _ sj => (intOf sj + 1).toNat)
                case atStart => exact ⟨0, k + 1, by omega, by go_num, rfl, Lib.hid (by simp)⟩
                case round =>
                  obtain ⟨m, j, hj, rfl, rfl, HS⟩ := hrel
                  rcases j with _ | j
                  · have hs := HS.out
                    have hs2 : m = val (xs.drop i) (k + 1) := by simpa [val] using hs
                    have HS2 := Lib.hid hs2
                    clear hs hs2 HS
                    go_wp2_with fail
                    go_ret3
                    exact ⟨by rw [HR.out, ← HS2.out]; rfl, rfl⟩
                  · have hcj := HC.out (i + j) (by omega)
                    obtain ⟨y, hy⟩ : ∃ y, y = xs.getD (i + j) 0 := ⟨_, rfl⟩
                    have hy256 : y < 256 := by rw [hy]; exact HG.out j (by omega)
                    have hst := rest_step (N := val (xs.drop i) j) (d := y % 128) HS.out (by simp only [val]; rw [HDR.out j, ← hy]) HVU.out
                    rw [← hy] at hcj
                    have hb1 : (m : Int) * 128 + (y : Int) % 128 ≤ 18446744073709551615 := by have := hst.1; omega
                    have HST := Lib.hid hst.2
                    clear hst hy HS
                    go_wp2_with fail
                    go_round
                    case rel => exact ⟨m * 128 + y % 128, j, by omega, by go_num, by go_num, HST⟩
                    case measure => simp [intOf]
          · have q9 : ((k : Int) == 9) = false := by rw [beq_eq_false_iff_ne]; omega
            have l9 : (k : Int) < 9 := by omega
            by_cases h128 : 128 ≤ x
            · have hr : ru xs (i : Int) = uu (val (xs.drop i) (k + 1)) (k + 1) (xs.drop (i + (k + 1))) := by rw [hu, if_neg (by omega), if_pos h128, HV.out]
              have HR := Lib.hid hr
              clear hu hr
              go_wp2_with fail
              go_round
              case rel => exact ⟨k + 1, by omega, by omega, by go_num, HR⟩
              case measure => simp [intOf]; omega
            · by_cases hx0 : x = 0
              · have z0 : ((x : Int) == 0) = true := by rw [beq_iff_eq]; omega
                by_cases hk0 : 0 < k
                · have hr : ru xs (i : Int) = (0, 0, 4) := by rw [hu, if_neg (by omega), if_neg (by omega), if_pos ⟨hx0, hk0⟩]
                  have HR := Lib.hid hr
                  clear hu hr hx0
                  go_wp2_with fail
                  go_ret3
                  exact ⟨by rw [HR.out]; rfl, rfl⟩
                · have p0 : ¬ (0 : Int) < (k : Int) := by omega
                  have hr : ru xs (i : Int) = (val (xs.drop i) (k + 1), k + 1, 0) := by rw [hu, if_neg (by omega), if_neg (by omega), if_neg (by omega), HV.out]
                  have hvu := val_u64 (xs.drop i) k hk9 (fun e => by rw [HDR.out k, ← HX.out]; omega)
                  have HR := Lib.hid hr
                  have HVU := Lib.hid hvu
                  clear hu hr hvu hx0
                  go_wp2_with fail
                  go_loop [9, 10] (fun sn sj => ∃ (m j : Nat), j ≤ k + 1 ∧ sj = .int .i64 ((j : Int) - 1) ∧ sn = .int .u64 m ∧ Hid (m * 128 ^ j + val (xs.drop i) j = val (xs.drop i) (k + 1))) (fun _ sj => (intOf sj + 1).toNat)
                  case atStart => exact ⟨0, k + 1, by omega, by go_num, rfl, Lib.hid (by simp)⟩
                  case round =>
                    obtain ⟨m, j, hj, rfl, rfl, HS⟩ := hrel
                    rcases j with _ | j
                    · have hs := HS.out
                      have hs2 : m = val (xs.drop i) (k + 1) := by simpa [val] using hs
                      have HS2 := Lib.hid hs2
                      clear hs hs2 HS
                      go_wp2_with fail
                      go_ret3
                      exact ⟨by rw [HR.out, ← HS2.out]; rfl, rfl⟩
                    · have hcj := HC.out (i + j) (by omega)
                      obtain ⟨y, hy⟩ : ∃ y, y = xs.getD (i + j) 0 := ⟨_, rfl⟩
                      have hy256 : y < 256 := by rw [hy]; exact HG.out j (by omega)
                      have hst := rest_step (N := val (xs.drop i) j) (d := y % 128) HS.out (by simp only [val]; rw [HDR.out j, ← hy]) HVU.out
                      rw [← hy] at hcj
                      have hb1 : (m : Int) * 128 + (y : Int) % 128 ≤ 18446744073709551615 := by have := hst.1; omega
                      have HST := Lib.hid hst.2
                      clear hst hy HS
                      go_wp2_with fail
                      go_round
                      case rel => exact ⟨m * 128 + y % 128, j, by omega, by go_num, by go_num, HST⟩
                      case measure => simp [intOf]
              · have z0 : ((x : Int) == 0) = false := by rw [beq_eq_false_iff_ne]; omega
                by_cases hk0 : 0 < k
                · have p0 : (0 : Int) < (k : Int) := by omega
                  have hr : ru xs (i : Int) = (val (xs.drop i) (k + 1), k + 1, 0) := by rw [hu, if_neg (by omega), if_neg (by omega), if_neg (by omega), HV.out]
                  have hvu := val_u64 (xs.drop i) k hk9 (fun e => by rw [HDR.out k, ← HX.out]; omega)
                  have HR := Lib.hid hr
                  have HVU := Lib.hid hvu
                  clear hu hr hvu
                  go_wp2_with fail
                  go_loop [9, 10] (fun sn sj => ∃ (m j : Nat), j ≤ k + 1 ∧ sj = .int .i64 ((j : Int) - 1) ∧ sn = .int .u64 m ∧ Hid (m * 128 ^ j + val (xs.drop i) j = val (xs.drop i) (k + 1))) (fun _ sj => (intOf sj + 1).toNat)
                  case atStart => exact ⟨0, k + 1, by omega, by go_num, rfl, Lib.hid (by simp)⟩
                  case round =>
                    obtain ⟨m, j, hj, rfl, rfl, HS⟩ := hrel
                    rcases j with _ | j
                    · have hs := HS.out
                      have hs2 : m = val (xs.drop i) (k + 1) := by simpa [val] using hs
                      have HS2 := Lib.hid hs2
                      clear hs hs2 HS
                      go_wp2_with fail
                      go_ret3
                      exact ⟨by rw [HR.out, ← HS2.out]; rfl, rfl⟩
                    · have hcj := HC.out (i + j) (by omega)
                      obtain ⟨y, hy⟩ : ∃ y, y = xs.getD (i + j) 0 := ⟨_, rfl⟩
                      have hy256 : y < 256 := by rw [hy]; exact HG.out j (by omega)
                      have hst := rest_step (N := val (xs.drop i) j) (d := y % 128) HS.out (by simp only [val]; rw [HDR.out j, ← hy]) HVU.out
                      rw [← hy] at hcj
                      have hb1 : (m : Int) * 128 + (y : Int) % 128 ≤ 18446744073709551615 := by have := hst.1; omega
                      have HST := Lib.hid hst.2
                      clear hst hy HS
                      go_wp2_with fail
                      go_round
                      case rel => exact ⟨m * 128 + y % 128, j, by omega, by go_num, by go_num, HST⟩
                      case measure => simp [intOf]
                · have p0 : ¬ (0 : Int) < (k : Int) := by omega
                  have hr : ru xs (i : Int) = (val (xs.drop i) (k + 1), k + 1, 0) := by rw [hu, if_neg (by omega), if_neg (by omega), if_neg (by omega), HV.out]
                  have hvu := val_u64 (xs.drop i) k hk9 (fun e => by rw [HDR.out k, ← HX.out]; omega)
                  have HR := Lib.hid hr
                  have HVU := Lib.hid hvu
                  clear hu hr hvu
                  go_wp2_with fail
                  go_loop [9, 10] (fun sn sj => ∃ (m j : Nat), j ≤ k + 1 ∧ sj = .int .i64 ((j : Int) - 1) ∧ sn = .int .u64 m ∧ Hid (m * 128 ^ j + val (xs.drop i) j = val (xs.drop i) (k + 1))) (fun _ sj => (intOf sj + 1).toNat)
                  case atStart => exact ⟨0, k + 1, by omega, by go_num, rfl, Lib.hid (by simp)⟩
                  case round =>
                    obtain ⟨m, j, hj, rfl, rfl, HS⟩ := hrel
                    rcases j with _ | j
                    · have hs := HS.out
                      have hs2 : m = val (xs.drop i) (k + 1) := by simpa [val] using hs
                      have HS2 := Lib.hid hs2
                      clear hs hs2 HS
                      go_wp2_with fail
                      go_ret3
                      exact ⟨by rw [HR.out, ← HS2.out]; rfl, rfl⟩
                    · have hcj := HC.out (i + j) (by omega)
                      obtain ⟨y, hy⟩ : ∃ y, y = xs.getD (i + j) 0 := ⟨_, rfl⟩
                      have hy256 : y < 256 := by rw [hy]; exact HG.out j (by omega)
                      have hst := rest_step (N := val (xs.drop i) j) (d := y % 128) HS.out (by simp only [val]; rw [HDR.out j, ← hy]) HVU.out
                      rw [← hy] at hcj
                      have hb1 : (m : Int) * 128 + (y : Int) % 128 ≤ 18446744073709551615 := by have := hst.1; omega
                      have HST := Lib.hid hst.2
                      clear hst hy HS
                      go_wp2_with fail
                      go_round
                      case rel => exact ⟨m * 128 + y % 128, j, by omega, by go_num, by go_num, HST⟩
                      case measure => simp [intOf]
        · have hr : ru xs (i : Int) = (0, 0, 3) := by
            rw [HU.out, List.drop_eq_nil_of_le (i := i + k) (by have := HLEN.out; omega)]; rfl
          have HR := Lib.hid hr
          clear hr HU
          by_cases h9 : (k : Int) < 9
          all_goals
            go_wp2_with fail
            go_ret3
            exact ⟨by rw [HR.out]; rfl, rfl⟩
    · have hr : ru xs (i : Int) = (0, 0, 3) := by
        rw [ru_nat, List.drop_eq_nil_of_le (by omega)]; rfl
      have HR := Lib.hid hr
      clear hr h
      go_enter Tryz.func22, Tryz.ntmps22
      go_wp2_with fail
      go_ret3
      exact ⟨by rw [HR.out]; rfl, rfl⟩
end Go.Proofs.YtpbijdoemdoijaaGreatDoor
end PkCa8_0
section PkCa8_1
/- What is read fits; PutI's reader I, walked; what is read is written so. -/
namespace Go.Proofs.YtpbijdoemdoijaaGreatDoor
open Go.RowKit NumsPlain
set_option linter.unusedVariables false

theorem uu_lt : ∀ (l : List Nat) (acc i : Nat), i ≤ 9 → acc < 128 ^ i → (uu acc i l).1 < 18446744073709551616
  | [], _, _, _, _ => by simp [uu]
  | x :: xs, acc, i, hi, ha => by
    have h2 : (128 : Nat) ^ (i + 1) = 128 ^ i * 128 := Nat.pow_succ ..
    have h1 : x % 128 * 128 ^ i ≤ 127 * 128 ^ i := Nat.mul_le_mul_right _ (by omega)
    have h3 : (128 : Nat) ^ 9 = 9223372036854775808 := by decide
    simp only [uu]
    split
    · simp
    · rename_i hn
      rcases Nat.lt_or_ge i 9 with g | g
      · have h4 : (128 : Nat) ^ (i + 1) ≤ 128 ^ 9 := Nat.pow_le_pow_right (by omega) (by omega)
        split
        · exact uu_lt xs _ (i + 1) (by omega) (by omega)
        · split
          · simp
          · simp only; omega
      · obtain rfl : i = 9 := by omega
        rw [h3] at *
        have h5 : x % 128 * 9223372036854775808 ≤ 1 * 9223372036854775808 := Nat.mul_le_mul_right _ (by omega)
        split
        · omega
        · split
          · simp
          · simp only; omega

theorem uu_err : ∀ (l : List Nat) (acc i : Nat), (uu acc i l).2.2 ≠ 0 → (uu acc i l).1 = 0
  | [], _, _, _ => by simp [uu]
  | x :: xs, acc, i, h => by
    revert h
    simp only [uu]
    split
    · simp
    · split
      · exact uu_err xs _ _
      · split
        · simp
        · simp

theorem ru_lt (xs : List Nat) (at_ : Int) : (ru xs at_).1 < 18446744073709551616 := by
  unfold ru; split
  · simp
  · exact uu_lt _ 0 0 (by omega) (by simp)
theorem ru_err (xs : List Nat) (at_ : Int) (h : (ru xs at_).2.2 ≠ 0) : (ru xs at_).1 = 0 := by
  revert h
  unfold ru; split
  · simp
  · exact uu_err _ 0 0

set_option maxHeartbeats 1000000 in
theorem i_any {a : Option Addr} {n c : Nat} {xs : List Nat} {w : World} (h : BytesAt w a n c xs) (at_ : Int) :
    Calls Tryz.prog 129 #[.slice a n c, .int .i64 at_] w fun e w' => e = .returned (.tuple #[.int .i64 (zag (ru xs at_).1), .int .i64 ((ru xs at_).2.1 : Int), .int .i64 ((ru xs at_).2.2 : Int)]) ∧ w = w' := by
  have h1 := u_any h at_
  have h2 := ru_lt xs at_
  have H1 := Lib.hid h1
  have H2 := Lib.hid h2
  clear h h1 h2
  go_enter Tryz.func129, Tryz.ntmps129
  go_wp2_with fail
  refine H1.out.mono ?_
  rintro e w' ⟨rfl, rfl⟩
  unfold ruV
  go_wp2_with fail
  refine (zag_any _ H2.out _).mono ?_
  rintro e w' ⟨rfl, rfl⟩
  go_wp2_with fail
  go_ret3
  exact ⟨rfl, rfl⟩


/-- what is read is written so -/
theorem uu_conv : ∀ (l : List Nat) (acc i v j : Nat), (∀ x ∈ l, x < 256) → uu acc i l = (v, j, 0) → ∃ k n, j = i + k ∧ k ≤ l.length ∧ v = acc + n * 128 ^ i ∧ l.take k = pu n ∧ (i = 0 ∨ 0 < n)
  | [], _, _, _, _, _, h => by simp [uu] at h
  | x :: xs, acc, i, v, j, hb, h => by
    have hx := hb x (by simp)
    simp only [uu] at h
    split at h
    · simp at h
    · split at h
      · rename_i h128
        obtain ⟨k, n, rfl, hk, rfl, ht, hn⟩ := uu_conv xs _ _ v j (fun y hy => hb y (by simp [hy])) h
        have hn' : 0 < n := by omega
        refine ⟨k + 1, x % 128 + 128 * n, by omega, by simp; omega, ?_, ?_, by omega⟩
        · rw [Nat.pow_succ, Nat.add_mul, Nat.mul_comm 128 n, Nat.mul_assoc n 128, Nat.mul_comm 128 (128 ^ i)]; omega
        · rw [List.take_succ_cons, ht, pu_big (show 128 ≤ x % 128 + 128 * n by omega)]
          have e1 : (x % 128 + 128 * n) / 128 = n := by omega
          have e2 : 128 + (x % 128 + 128 * n) % 128 = x := by omega
          rw [e1, e2]
      · split at h
        · simp at h
        · simp only [Prod.mk.injEq, and_true] at h
          obtain ⟨rfl, rfl⟩ := h
          refine ⟨1, x, by omega, by simp, ?_, ?_, by omega⟩
          · rw [Nat.mod_eq_of_lt (by omega)]
          · rw [pu_small (by omega)]; simp

theorem ru_conv {xs : List Nat} {v j : Nat} (hb : ∀ x ∈ xs, x < 256) (h : ru xs 0 = (v, j, 0)) : j ≤ xs.length ∧ xs.take j = pu v := by
  rw [show (0 : Int) = ((0 : Nat) : Int) from rfl, ru_nat] at h
  simp only [List.drop_zero] at h
  obtain ⟨k, n, rfl, hk, rfl, ht, _⟩ := uu_conv xs 0 0 v j hb h
  simp only [Nat.zero_add, Nat.pow_zero, Nat.mul_one] at *
  exact ⟨hk, ht⟩

theorem ru_back {n : Nat} (h : n < 18446744073709551616) (r : List Nat) : ru (pu n ++ r) 0 = (n, (pu n).length, 0) := by
  rw [show (0 : Int) = ((0 : Nat) : Int) from rfl, ru_nat]
  simpa using uu_back h r

end Go.Proofs.YtpbijdoemdoijaaGreatDoor
end PkCa8_1
