/- Package nums' U, walked: at any place of any bytes it answers what the plain function says. -/
import Derived.Test.YteggmbfhfoijoaaDoorNPuti
import Derived.Laws.BitsAllLaws
namespace Go.Proofs.YteggmbfhfoijoaaDoor
open Go.RowKit NumsPlain
set_option linter.unusedVariables false

/-- what U says of bytes at a place -/
def ru (xs : List Nat) (at_ : Int) : Nat × Nat × Nat := if at_ < 0 then (0, 0, 3) else uu 0 0 (xs.drop at_.toNat)
theorem ru_nat (xs : List Nat) (i : Nat) : ru xs (i : Int) = uu 0 0 (xs.drop i) := by
  unfold ru; rw [if_neg (by omega)]; simp
def ruV (r : Nat × Nat × Nat) : Value := .tuple #[.int .u64 (r.1 : Int), .int .i64 (r.2.1 : Int), .int .i64 (r.2.2 : Int)]

theorem mask127 (x : Nat) (h : x < 256) : bits .and .u8 (x : Int) 127 = ((x % 128 : Nat) : Int) := by
  have := u8_and_nat x 127 h (by omega)
  rw [nat_mask7] at this
  exact this

theorem pow128 (k : Nat) : (128 : Nat) ^ k = 2 ^ (7 * k) := by rw [Nat.pow_mul]

theorem or_step {X k x : Nat} (hX : X < 128 ^ k) (hk : k ≤ 9) (hx : x < 128) (h9 : k = 9 → x ≤ 1) :
    bits .or .u64 (X : Int) (IntKind.u64.wrap ((x : Int) * 2 ^ (7 * k))) = ((X + x * 128 ^ k : Nat) : Int) := by
  have hb : x * 128 ^ k < 18446744073709551616 := by
    rcases Nat.lt_or_ge k 9 with g | g
    · have h1 : 128 ^ k ≤ 128 ^ 8 := Nat.pow_le_pow_right (by omega) (by omega)
      have h2 : x * 128 ^ k ≤ 127 * 128 ^ 8 := Nat.mul_le_mul (by omega) h1
      have h3 : (127 : Nat) * 128 ^ 8 < 18446744073709551616 := by decide
      omega
    · have hk9 : k = 9 := by omega
      have h2 : x * 128 ^ k ≤ 1 * 128 ^ 9 := Nat.mul_le_mul (h9 hk9) (by rw [hk9]; exact Nat.le_refl _)
      have h3 : (1 : Nat) * 128 ^ 9 < 18446744073709551616 := by decide
      omega
  have hXb : X < 18446744073709551616 := by
    have h1 : 128 ^ k ≤ 128 ^ 9 := Nat.pow_le_pow_right (by omega) (by omega)
    have h3 : (128 : Nat) ^ 9 < 18446744073709551616 := by decide
    omega
  have e1 : (x : Int) * 2 ^ (7 * k) = ((x * 128 ^ k : Nat) : Int) := by rw [pow128]; push_cast; rfl
  rw [e1, IntKind.wrap_u64, show ((x * 128 ^ k : Nat) : Int) % 18446744073709551616 = ((x * 128 ^ k : Nat) : Int) from by omega, u64_or_nat X (x * 128 ^ k) hXb hb, Nat.or_comm, nat_join (7 * k) (x * 128 ^ k) X (by rw [pow128]; exact Nat.mul_mod_left _ _) (by rw [← pow128]; exact hX), Nat.add_comm]

set_option maxRecDepth 100000 in
set_option maxHeartbeats 1000000 in
theorem u_any {a : Option Addr} {n c : Nat} {xs : List Nat} {w : World} (h : BytesAt w a n c xs) (at_ : Int) :
    Calls Tryd.prog 54 #[.slice a n c, .int .i64 at_] w fun e w' => e = .returned (ruV (ru xs at_)) ∧ w = w' := by
  have hlen := h.len
  have hcap := h.cap
  have hcm := h.capm
  have hrm := h.reach
  by_cases hneg : at_ < 0
  · have hr : ru xs at_ = (0, 0, 3) := by unfold ru; rw [if_pos hneg]
    have HR := Lib.hid hr
    clear hr h
    have d1 : decide (at_ < 0) = true := by simp; omega
    go_enter Tryd.func54, Tryd.ntmps54
    go_wp2_with fail
    go_ret3
    exact ⟨by rw [HR.out]; rfl, rfl⟩
  · obtain ⟨i, rfl⟩ := Int.eq_ofNat_of_zero_le (show 0 ≤ at_ by omega)
    by_cases hin : i < n
    · obtain ⟨b, off, rfl, _, hcell⟩ := h.cells (by omega)
      have hbyte := h.byte
      have HC := Lib.hid hcell
      have HB := Lib.hid hbyte
      clear h hcell hbyte
      go_enter Tryd.func54, Tryd.ntmps54
      go_wp2_with fail
      go_loop [7, 22] (fun sx si => ∃ k X : Nat, k ≤ n - i ∧ k ≤ 9 ∧ si = .int .i64 k ∧ sx = .int .u64 X ∧ Hid (X < 128 ^ k) ∧ Hid (ru xs (i : Int) = uu X k (xs.drop (i + k)))) (fun _ si => n - i - (intOf si).toNat)
      case atStart => exact ⟨0, 0, by omega, by omega, rfl, rfl, Lib.hid (by simp), Lib.hid (ru_nat xs i)⟩
      case round =>
        obtain ⟨k, X, hk, hk9, rfl, rfl, HX, HU⟩ := hrel
        by_cases hkn : k < n - i
        · have hc0 := HC.out (i + k) (by omega)
          obtain ⟨x, hx⟩ : ∃ x, x = xs.getD (i + k) 0 := ⟨_, rfl⟩
          have hx256 : x < 256 := by
            have h1 : i + k < xs.length := by omega
            rw [hx]
            have : xs.getD (i + k) 0 = xs[i + k] := by simp [h1]
            rw [this]
            exact HB.out _ (List.getElem_mem h1)
          rw [← hx, ← Nat.add_assoc] at hc0
          have hd : xs.drop (i + k) = x :: xs.drop (i + k + 1) := by
            have h1 : i + k < xs.length := by omega
            rw [List.drop_eq_getElem_cons h1, hx]; simp [h1]
          have hu := HU.out
          rw [hd] at hu
          simp only [uu] at hu
          have hm := mask127 x hx256
          have hX := HX.out
          clear HU hx
          have hdd : xs.drop (i + k + 1) = xs.drop (i + (k + 1)) := by rw [Nat.add_assoc]
          by_cases h9 : k = 9
          · have q9 : ((k : Int) == 9) = true := by rw [beq_iff_eq]; omega
            by_cases hx1 : 1 < x
            · have hr : ru xs (i : Int) = (0, 0, 4) := by rw [hu, if_pos ⟨h9, hx1⟩]
              have HR := Lib.hid hr
              clear hu hd hX hr hdd h9
              go_wp2_with fail
              go_ret3
              exact ⟨by rw [HR.out]; rfl, rfl⟩
            · by_cases hx0 : x = 0
              · have hr : ru xs (i : Int) = (0, 0, 4) := by rw [hu, if_neg (by omega), if_neg (by omega), if_pos ⟨hx0, by omega⟩]
                have z0 : ((x : Int) == 0) = true := by rw [beq_iff_eq]; omega
                have p0 : (0 : Int) < (k : Int) := by omega
                have HR := Lib.hid hr
                clear hu hd hX hr hdd h9 hx0
                go_wp2_with fail
                go_ret3
                exact ⟨by rw [HR.out]; rfl, rfl⟩
              · have hr : ru xs (i : Int) = (X + x % 128 * 128 ^ k, k + 1, 0) := by rw [hu, if_neg (by omega), if_neg (by omega), if_neg (by omega)]
                have z0 : ((x : Int) == 0) = false := by rw [beq_eq_false_iff_ne]; omega
                have ho := or_step hX hk9 (show x % 128 < 128 by omega) (fun _ => by omega)
                have HR := Lib.hid hr
                have HO := Lib.hid ho
                clear hu hd hX hr hdd h9 ho
                go_wp2_with fail
                go_ret3
                exact ⟨by rw [HR.out]; simp only [ruV, ← HO.out]; rfl, rfl⟩
          · have q9 : ((k : Int) == 9) = false := by rw [beq_eq_false_iff_ne]; omega
            have ho := or_step hX hk9 (show x % 128 < 128 by omega) (fun e => absurd e h9)
            have HO := Lib.hid ho
            by_cases h128 : 128 ≤ x
            · have hr : ru xs (i : Int) = uu (X + x % 128 * 128 ^ k) (k + 1) (xs.drop (i + (k + 1))) := by rw [hu, if_neg (by omega), if_pos h128, hdd]
              have HR := Lib.hid hr
              have hXn : X + x % 128 * 128 ^ k < 128 ^ (k + 1) := by
                have h1 : x % 128 * 128 ^ k ≤ 127 * 128 ^ k := Nat.mul_le_mul_right _ (by omega)
                have h2 : (128 : Nat) ^ (k + 1) = 128 ^ k * 128 := Nat.pow_succ ..
                omega
              have HXn := Lib.hid hXn
              clear hu hd hX hr hdd ho hXn
              go_wp2_with fail
              go_round
              case rel => exact ⟨k + 1, X + x % 128 * 128 ^ k, by omega, by omega, by go_num, by rw [← HO.out]; rfl, HXn, HR⟩
              case measure => simp [intOf]; omega
            · by_cases hx0 : x = 0
              · have z0 : ((x : Int) == 0) = true := by rw [beq_iff_eq]; omega
                by_cases hk0 : 0 < k
                · have hr : ru xs (i : Int) = (0, 0, 4) := by rw [hu, if_neg (by omega), if_neg (by omega), if_pos ⟨hx0, hk0⟩]
                  have HR := Lib.hid hr
                  clear hu hd hX hr hdd hx0 ho
                  go_wp2_with fail
                  go_ret3
                  exact ⟨by rw [HR.out]; rfl, rfl⟩
                · have hr : ru xs (i : Int) = (X + x % 128 * 128 ^ k, k + 1, 0) := by rw [hu, if_neg (by omega), if_neg (by omega), if_neg (by omega)]
                  have HR := Lib.hid hr
                  clear hu hd hX hr hdd hx0 ho
                  go_wp2_with fail
                  go_ret3
                  exact ⟨by rw [HR.out]; simp only [ruV, ← HO.out]; rfl, rfl⟩
              · have z0 : ((x : Int) == 0) = false := by rw [beq_eq_false_iff_ne]; omega
                have hr : ru xs (i : Int) = (X + x % 128 * 128 ^ k, k + 1, 0) := by rw [hu, if_neg (by omega), if_neg (by omega), if_neg (by omega)]
                have HR := Lib.hid hr
                clear hu hd hX hr hdd ho
                go_wp2_with fail
                go_ret3
                exact ⟨by rw [HR.out]; simp only [ruV, ← HO.out]; rfl, rfl⟩
        · have hr : ru xs (i : Int) = (0, 0, 3) := by
            rw [HU.out, List.drop_eq_nil_of_le (by omega)]; rfl
          have HR := Lib.hid hr
          clear hr HU
          go_wp2_with fail
          go_ret3
          exact ⟨by rw [HR.out]; rfl, rfl⟩
    · have hr : ru xs (i : Int) = (0, 0, 3) := by
        unfold ru; rw [if_neg hneg]
        simp only [Int.toNat_natCast]
        rw [List.drop_eq_nil_of_le (by omega)]; rfl
      have HR := Lib.hid hr
      clear hr h
      go_enter Tryd.func54, Tryd.ntmps54
      go_wp2_with fail
      go_ret3
      exact ⟨by rw [HR.out]; rfl, rfl⟩
end Go.Proofs.YteggmbfhfoijoaaDoor
