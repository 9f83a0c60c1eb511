/- Package nums' I, and the walk of NumsReads: it returns true for all bytes and all places. -/
import Derived.Test.YtbpimhklekcaiaaNumsRU
import Derived.Test.YtbpimhklekcaiaaNumsPutsWalk
namespace Go.Proofs.Ytbpimhklekcaiaa
open Go.RowKit NumsPlain
set_option linter.unusedVariables false

theorem uu_lt : ∀ (l : List Nat) (acc i : Nat), i ≤ 9 → acc < 128 ^ i → (uu acc i l).1 < 18446744073709551616
  | [], _, _, _, _ => by simp [uu]
  | x :: xs, acc, i, hi, ha => by
    have h2 : (128 : Nat) ^ (i + 1) = 128 ^ i * 128 := Nat.pow_succ ..
    have h1 : x % 128 * 128 ^ i ≤ 127 * 128 ^ i := Nat.mul_le_mul_right _ (by omega)
    have h3 : (128 : Nat) ^ 9 = 9223372036854775808 := by decide
    simp only [uu]
    split
    · simp
    · rename_i hn
      rcases Nat.lt_or_ge i 9 with g | g
      · have h4 : (128 : Nat) ^ (i + 1) ≤ 128 ^ 9 := Nat.pow_le_pow_right (by omega) (by omega)
        split
        · exact uu_lt xs _ (i + 1) (by omega) (by omega)
        · split
          · simp
          · simp only; omega
      · obtain rfl : i = 9 := by omega
        rw [h3] at *
        have h5 : x % 128 * 9223372036854775808 ≤ 1 * 9223372036854775808 := Nat.mul_le_mul_right _ (by omega)
        split
        · omega
        · split
          · simp
          · simp only; omega

theorem uu_err : ∀ (l : List Nat) (acc i : Nat), (uu acc i l).2.2 ≠ 0 → (uu acc i l).1 = 0
  | [], _, _, _ => by simp [uu]
  | x :: xs, acc, i, h => by
    revert h
    simp only [uu]
    split
    · simp
    · split
      · exact uu_err xs _ _
      · split
        · simp
        · simp

theorem ru_lt (xs : List Nat) (at_ : Int) : (ru xs at_).1 < 18446744073709551616 := by
  unfold ru; split
  · simp
  · exact uu_lt _ 0 0 (by omega) (by simp)
theorem ru_err (xs : List Nat) (at_ : Int) (h : (ru xs at_).2.2 ≠ 0) : (ru xs at_).1 = 0 := by
  revert h
  unfold ru; split
  · simp
  · exact uu_err _ 0 0

set_option maxHeartbeats 1000000 in
theorem i_any {a : Option Addr} {n c : Nat} {xs : List Nat} {w : World} (h : BytesAt w a n c xs) (at_ : Int) :
    Calls Try.prog 22 #[.slice a n c, .int .i64 at_] w fun e w' => e = .returned (.tuple #[.int .i64 (zag (ru xs at_).1), .int .i64 ((ru xs at_).2.1 : Int), .int .i64 ((ru xs at_).2.2 : Int)]) ∧ w = w' := by
  have h1 := u_any h at_
  have h2 := ru_lt xs at_
  have H1 := Lib.hid h1
  have H2 := Lib.hid h2
  clear h h1 h2
  go_enter Try.func22, Try.ntmps22
  go_wp2_with fail
  refine H1.out.mono ?_
  rintro e w' ⟨rfl, rfl⟩
  unfold ruV
  go_wp2_with fail
  refine (zag_any _ H2.out _).mono ?_
  rintro e w' ⟨rfl, rfl⟩
  go_wp2_with fail
  go_ret3
  exact ⟨rfl, rfl⟩

theorem pu_300 : pu 300 = [172, 2] := by rw [pu_big (by omega), pu_small (by omega)]

set_option maxRecDepth 100000 in
set_option maxHeartbeats 1000000 in
theorem numsReads_walk (a0 : Option Addr) (len0 cap0 : Nat) (z0 : List Int) (a1 : Int) (w : World) (w0 : IsRow .u8 1 w a0 len0 cap0 z0) (w1 : (Lit.int .i64 a1).wf = true) :
    Calls Try.prog 4 #[.slice a0 len0 cap0, .int .i64 a1] w fun e w' => e = .returned (.bool true) ∧ Below w.heap.size w w' := by
  obtain ⟨xs, hb⟩ := w0.bytes
  clear w0 w1
  go_enter Try.func4, Try.ntmps4
  go_wp2_with fail
  refine (twin hb).mono ?_
  rintro e w1 ⟨g, k, rfl, hg, hg2, _, hc, hb1⟩
  have hb' := hb.kept hb1
  have hu := u_any hc a1
  have hru := ru_any hb' a1
  have hs := same_any hc hb'
  have hi := i_any hc a1
  have hp := putu 300 (by omega) w1
  rw [beq_self_eq_true] at hs
  have HU := Lib.hid hu
  have HRU := Lib.hid hru
  have HS := Lib.hid hs
  have HP := Lib.hid hp
  have HC := Lib.hid hc
  clear hb hb' hu hru hs hp hc hi
  obtain ⟨u, hu⟩ : ∃ u, u = (ru xs a1).1 := ⟨_, rfl⟩
  obtain ⟨m, hm⟩ : ∃ m, m = (ru xs a1).2.1 := ⟨_, rfl⟩
  obtain ⟨f, hf⟩ : ∃ f, f = (ru xs a1).2.2 := ⟨_, rfl⟩
  have hV : ruV (ru xs a1) = .tuple #[.int .u64 (u : Int), .int .i64 (m : Int), .int .i64 (f : Int)] := by unfold ruV; rw [hu, hm, hf]
  have HV := Lib.hid hV
  have HE := Lib.hid (show f ≠ 0 → u = 0 from by rw [hf, hu]; exact ru_err xs a1)
  have HL := Lib.hid (show u < 18446744073709551616 from by rw [hu]; exact ru_lt xs a1)
  have Hu := Lib.hid hu
  have Hm := Lib.hid hm
  have Hf := Lib.hid hf
  clear hu hm hf hV
  go_wp2_with fail
  refine HU.out.mono ?_
  rintro e w' ⟨rfl, rfl⟩
  rw [HV.out]
  go_wp2_with fail
  refine HRU.out.mono ?_
  rintro e w' ⟨rfl, rfl⟩
  rw [HV.out]
  go_wp2_with fail
  refine HS.out.mono ?_
  rintro e w' ⟨rfl, rfl⟩
  go_wp2_with fail
  refine HP.out.mono ?_
  rintro e w2 ⟨g2, c2, rfl, hg2', hp2, hb2⟩
  have hlit := BytesAt.lit w2 #[.int .u8 172, .int .u8 2] [172, 2] rfl (by decide) (by decide) (by decide)
  have hs2 := same_any (hp2.alloc (.cells #[.int .u8 172, .int .u8 2] 5)) hlit
  rw [show (pu 300 == [172, 2]) = true from by rw [pu_300]; rfl] at hs2
  have hbb : Below w.heap.size w (w2.alloc (.cells #[.int .u8 172, .int .u8 2] 5)) := (hb1.trans (hb2.mono hb1.size)).alloc (Nat.le_trans hb1.size hb2.size) _
  have hi := i_any ((HC.out.kept hb2).alloc (.cells #[.int .u8 172, .int .u8 2] 5)) a1
  have HS2 := Lib.hid hs2
  have HI := Lib.hid hi
  have HBB := Lib.hid hbb
  clear hp2 hlit hs2 hi hbb hb2 hb1
  go_wp2_with fail
  refine HS2.out.mono ?_
  rintro e w' ⟨rfl, rfl⟩
  go_wp2_with fail
  refine HI.out.mono ?_
  rintro e w' ⟨rfl, rfl⟩
  rw [← Hu.out, ← Hm.out, ← Hf.out]
  by_cases hf0 : f = 0
  · have z0 : ((f : Int) != 0) = false := by rw [bne_eq_false_iff_eq]; omega
    have z1 : ((f : Int) == 0) = true := by rw [beq_iff_eq]; omega
    clear hf0
    go_wp2_with fail
    refine (rzag_any _ HL.out _).mono ?_
    rintro e w' ⟨rfl, rfl⟩
    go_wp2_with fail
    go_ret
    exact ⟨rfl, HBB.out⟩
  · have z0 : ((f : Int) != 0) = true := by rw [bne_iff_ne]; omega
    have z1 : ((f : Int) == 0) = false := by rw [beq_eq_false_iff_ne]; omega
    have z2 : (zag u == 0) = true := by rw [HE.out hf0]; rfl
    clear hf0
    go_wp2_with fail
    go_ret
    exact ⟨rfl, HBB.out⟩
end Go.Proofs.Ytbpimhklekcaiaa
