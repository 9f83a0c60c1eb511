/- The document's lengths and distances (entrepotref06.Length, Distance, Extra; entrepotref07.length, distance), walked: the program's. -/
import Derived.Test.YtachikilcfdngaaSqTks
namespace Go.Proofs.Ytachikilcfdngaa
open Go.RowKit BitsPlain
set_option linter.unusedVariables false

def lb : Nat → Nat × Nat
  | 0 => (11, 1)
  | i + 1 => ((lb i).1 + 2 ^ (lb i).2, if (i + 8) % 4 = 3 then (lb i).2 + 1 else (lb i).2)
theorem lb_le {i : Nat} (h : i < 20) : (lb i).1 ≤ 300 ∧ (lb i).2 ≤ 6 := by
  have : ∀ i, i < 20 → (lb i).1 ≤ 300 ∧ (lb i).2 ≤ 6 := by decide +kernel
  exact this i h
def lenB (s : Nat) : Nat × Nat := if s < 8 then (s + 3, 0) else lb (s - 8)
def exB (d : Nat) : Nat := if d < 4 then 0 else d / 2 - 1
def db : Nat → Nat
  | 0 => 1
  | i + 1 => db i + 2 ^ exB i
theorem db_le {d : Nat} (h : d < 30) : db d ≤ 32768 ∧ exB d ≤ 13 := by
  have : ∀ d, d < 30 → db d ≤ 32768 ∧ exB d ≤ 13 := by decide +kernel
  exact this d h

set_option maxRecDepth 100000 in
set_option maxHeartbeats 2000000 in
theorem rlen06_any {w : World} {s : Nat} (h : s < 28) :
    Calls Try.prog 62 #[.int .i64 (s : Int)] w fun e w' => e = .returned (.tuple #[.int .i64 ((lenB s).1 : Int), .int .i64 ((lenB s).2 : Int)]) ∧ w = w' := by
  by_cases h8 : s < 8
  · have e : lenB s = (s + 3, 0) := if_pos h8
    have h8i : (s : Int) < 8 := by omega
    rw [e]
    go_enter Try.func62, Try.ntmps62
    go_wp2_with fail
    first | go_ret2 | go_ret
    exact ⟨by go_num, rfl⟩
  · obtain ⟨t, ht1, ht2⟩ : ∃ t, s ≤ 8 + t ∧ 8 + t ≤ s := ⟨s - 8, by omega, by omega⟩
    have HE := Lib.hid (show lenB s = lb t from by unfold lenB; rw [if_neg h8, show s - 8 = t from by omega])
    have h8i : ¬ (s : Int) < 8 := by omega
    have h28 : ¬ (s : Int) = 28 := by omega
    go_enter Try.func62, Try.ntmps62
    go_wp2_with fail
    go_loop [4, 5, 6] (fun s4 s5 s6 => ∃ k j b m : Nat, k ≤ t ∧ j ≤ 8 + k ∧ 8 + k ≤ j ∧ s6 = .int .i64 (j : Int) ∧ s4 = .int .i64 (b : Int) ∧ s5 = .int .i64 (m : Int) ∧ Hid (lb k = (b, m))) (fun _ _ s6 => s - (intOf s6).toNat)
    case atStart => exact ⟨0, 8, 11, 1, by omega, by omega, by omega, rfl, rfl, rfl, Lib.hid rfl⟩
    case round =>
      obtain ⟨k, j, b, m, hk, hj1, hj2, rfl, rfl, rfl, HB⟩ := hrel
      have hle := lb_le (i := k) (by omega)
      rw [HB.out] at hle
      by_cases hkt : j < s
      · obtain ⟨hb3, hm6⟩ := hle
        have hji : (j : Int) < (s : Int) := by omega
        obtain ⟨p, hp⟩ : ∃ p, p = 2 ^ m := ⟨_, rfl⟩
        have hp64 : p ≤ 64 := by rw [hp]; exact Nat.pow_le_pow_right (n := 2) (by omega) (show m ≤ 6 from hm6)
        have hpi : (2 : Int) ^ m = (p : Int) := by rw [hp]; push_cast; rfl
        have HN := Lib.hid (show lb (k + 1) = (b + p, if j % 4 = 3 then m + 1 else m) from by
          have : k + 8 = j := by omega
          rw [lb, HB.out, hp, this])
        clear hp
        by_cases h4 : j % 4 = 3
        · have h4i : (j : Int) % 4 = 3 := by omega
          have e := HN.out
          rw [if_pos h4] at e
          have HNN := Lib.hid e
          clear e h4
          go_wp2_with fail
          go_round
          case rel => exact ⟨k + 1, j + 1, b + p, m + 1, by omega, by omega, by omega, by go_num, by go_num, by go_num, HNN⟩
          case measure => simp [intOf]; omega
        · have h4i : ¬ (j : Int) % 4 = 3 := by omega
          have e := HN.out
          rw [if_neg h4] at e
          have HNN := Lib.hid e
          clear e h4
          go_wp2_with fail
          go_round
          case rel => exact ⟨k + 1, j + 1, b + p, m, by omega, by omega, by omega, by go_num, by go_num, rfl, HNN⟩
          case measure => simp [intOf]; omega
      · have hji : ¬ (j : Int) < (s : Int) := by omega
        have HEE := Lib.hid (show lenB s = (b, m) from by
          have : k = t := by omega
          rw [HE.out, ← this, HB.out])
        go_wp2_with fail
        first | go_ret2 | go_ret
        rw [HEE.out]
        exact ⟨rfl, rfl⟩

set_option maxRecDepth 100000 in
set_option maxHeartbeats 2000000 in
theorem rextra_any {w : World} {d : Nat} (h : d < 30) :
    Calls Try.prog 64 #[.int .i64 (d : Int)] w fun e w' => e = .returned (.int .i64 ((exB d : Nat) : Int)) ∧ w = w' := by
  by_cases h4 : d < 4
  · have e : exB d = 0 := if_pos h4
    have h4i : (d : Int) < 4 := by omega
    rw [e]
    go_enter Try.func64, Try.ntmps64
    go_wp2_with fail
    go_ret
    exact ⟨by go_num, rfl⟩
  · have e : exB d = d / 2 - 1 := if_neg h4
    have h4i : ¬ (d : Int) < 4 := by omega
    obtain ⟨y, hy⟩ : ∃ y, y = exB d := ⟨_, rfl⟩
    have hq : IntKind.i64.wrap ((d : Int) / 2 - 1) = (y : Int) := by rw [IntWalk.i64_in _ (by omega)]; omega
    have hq2 : (d : Int) / 2 - 1 = (y : Int) := by omega
    rw [← hy]
    clear e hy
    go_enter Try.func64, Try.ntmps64
    go_wp2_with fail
    go_ret
    exact ⟨by go_num, rfl⟩

set_option maxRecDepth 100000 in
set_option maxHeartbeats 2000000 in
theorem rdist06_any {w : World} {d : Nat} (h : d < 30) :
    Calls Try.prog 63 #[.int .i64 (d : Int)] w fun e w' => e = .returned (.tuple #[.int .i64 ((db d : Nat) : Int), .int .i64 ((exB d : Nat) : Int)]) ∧ w = w' := by
  go_enter Try.func63, Try.ntmps63
  go_wp2_with fail
  go_loop [4, 5] (fun s4 s5 => ∃ k b : Nat, k ≤ d ∧ s5 = .int .i64 (k : Int) ∧ s4 = .int .i64 (b : Int) ∧ Hid (db k = b)) (fun _ s5 => d - (intOf s5).toNat)
  case atStart => exact ⟨0, 1, by omega, rfl, rfl, Lib.hid rfl⟩
  case round =>
    obtain ⟨k, b, hk, rfl, rfl, HB⟩ := hrel
    have hle := db_le (d := k) (by omega)
    rw [HB.out] at hle
    obtain ⟨hb3, hm6⟩ := hle
    by_cases hkt : k < d
    · have hji : (k : Int) < (d : Int) := by omega
      have HX := Lib.hid (rextra_any (w := w) (d := k) (by omega))
      obtain ⟨m, hm⟩ : ∃ m, m = exB k := ⟨_, rfl⟩
      rw [← hm] at HX hm6
      obtain ⟨p, hp⟩ : ∃ p, p = 2 ^ m := ⟨_, rfl⟩
      have hp64 : p ≤ 8192 := by rw [hp]; exact Nat.pow_le_pow_right (n := 2) (by omega) (show m ≤ 13 from hm6)
      have hpi : (2 : Int) ^ m = (p : Int) := by rw [hp]; push_cast; rfl
      have HN := Lib.hid (show db (k + 1) = b + p from by rw [db, HB.out, hp, hm])
      clear hp hm
      go_wp2_with fail
      refine HX.out.mono ?_
      rintro e w2 ⟨rfl, rfl⟩
      go_wp2_with fail
      go_round
      case rel => exact ⟨k + 1, b + p, by omega, by go_num, by go_num, HN⟩
      case measure => simp [intOf]; omega
    · obtain rfl : k = d := by omega
      have hji : ¬ (k : Int) < (k : Int) := by omega
      have HX := Lib.hid (rextra_any (w := w) (d := k) (by omega))
      go_wp2_with fail
      refine HX.out.mono ?_
      rintro e w2 ⟨rfl, rfl⟩
      go_wp2_with fail
      first | go_ret2 | go_ret
      rw [HB.out]
      exact ⟨rfl, rfl⟩
end Go.Proofs.Ytachikilcfdngaa
