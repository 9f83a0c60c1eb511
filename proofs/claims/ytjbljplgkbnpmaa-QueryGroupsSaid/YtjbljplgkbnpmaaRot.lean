/- A stretch of rows turned (slices.rotateCmpFunc). -/
import Derived.Test.YtjbljplgkbnpmaaSwap
namespace Go.Proofs.Ytjbljplgkbnpmaa
open Go.ChangeShapes Go.WideShapes Go.Deep Go.RowKit Stab
set_option linter.unusedVariables false

set_option maxRecDepth 100000 in
set_option maxHeartbeats 2000000 in
theorem rot_any {w : World} {g n c : Nat} {f : Nat → RowV} {a m b : Nat} {cmp : Value} (h : Nines w g n f) (ham : a < m) (hmb : m < b) (hb : b ≤ n) (hc : n ≤ c) (hcm : c ≤ 9223372036854775807) :
    Calls Try.prog 125 #[.slice (some ⟨g, 0, none⟩) n c, .int .i64 (a : Int), .int .i64 (m : Int), .int .i64 (b : Int), cmp] w fun e w' => e = .returned undef ∧ Nines w' g n (rot f a m b) ∧ Turns1 g w w' := by
  have H := Lib.hid h
  clear h
  have s1 : IntKind.i64.wrap ((m : Int) - (a : Int)) = ((m - a : Nat) : Int) := by rw [IntWalk.i64_in _ (by omega)]; omega
  have s2 : IntKind.i64.wrap ((b : Int) - (m : Int)) = ((b - m : Nat) : Int) := by rw [IntWalk.i64_in _ (by omega)]; omega
  go_enter Try.func125, Try.ntmps125
  go_wp2_with fail
  go_loopw [10, 11] (fun s10 s11 wr => ∃ (i j : Nat) (k : Nat → RowV), 0 < i ∧ 0 < j ∧ i ≤ m - a ∧ j ≤ b - m ∧ s10 = .int .i64 (i : Int) ∧ s11 = .int .i64 (j : Int) ∧ Hid (rot k (m - i) m (m + j) = rot f a m b) ∧ Hid (Nines wr g n k) ∧ Hid (Turns1 g w wr)) (fun s10 s11 _ => (intOf s10).toNat + (intOf s11).toNat)
  case atStart => exact ⟨m - a, b - m, f, by omega, by omega, by omega, by omega, rfl, rfl, Lib.hid (by rw [show m - (m - a) = a from by omega, show m + (b - m) = b from by omega]), H, Lib.hid (Turns1.refl g w)⟩
  case round =>
    obtain ⟨i, j, k, hi0, hj0, hi, hj, rfl, rfl, HE, HR, HT⟩ := hrel
    rename World => wr
    have s3 : IntKind.i64.wrap ((m : Int) - (i : Int)) = ((m - i : Nat) : Int) := by rw [IntWalk.i64_in _ (by omega)]; omega
    rcases Nat.lt_trichotomy i j with hij | hij | hij
    · have z1 : ((i : Int) != (j : Int)) = true := by rw [bne_iff_ne]; omega
      have z2 : ¬ (j : Int) < (i : Int) := by omega
      have s4 : IntKind.i64.wrap ((m : Int) + (j : Int)) = (m : Int) + (j : Int) := IntWalk.i64_in _ (by omega)
      have s5 : IntKind.i64.wrap ((m : Int) + (j : Int) - (i : Int)) = ((m + j - i : Nat) : Int) := by rw [IntWalk.i64_in _ (by omega)]; omega
      have s6 : IntKind.i64.wrap ((j : Int) - (i : Int)) = ((j - i : Nat) : Int) := by rw [IntWalk.i64_in _ (by omega)]; omega
      have HS := Lib.hid (swr_any (cmp := cmp) (c := c) (a := m - i) (b := m + j - i) (m := i) HR.out.drew (by omega) (by omega) hc hcm)
      have HS2 := Lib.hid (swr_any (cmp := cmp) (c := c) (a := m - i) (b := m + j - i) (m := i) HR.out (by omega) (by omega) hc hcm)
      go_wp2_with fail
      first | refine HS2.out.mono ?_ | refine HS.out.mono ?_
      rintro e w2 ⟨rfl, h2, t2⟩
      have HN := Lib.hid h2
      have HU := Lib.hid (HT.out.trans t2)
      have HF := Lib.hid ((rot_lt k m i j hij (by omega)).trans HE.out)
      clear h2 t2
      go_wp2_with fail
      go_roundw
      case rel => exact ⟨i, j - i, _, hi0, by omega, hi, by omega, rfl, by go_num, HF, HN, HU⟩
      case measure => simp [intOf]; omega
    · subst hij
      have z1 : ((i : Int) != (i : Int)) = false := by simp
      have HS := Lib.hid (swr_any (cmp := cmp) (c := c) (a := m - i) (b := m) (m := i) HR.out (by omega) (by omega) hc hcm)
      go_wp2_with fail
      refine HS.out.mono ?_
      rintro e w2 ⟨rfl, h2, t2⟩
      have HN := Lib.hid h2
      have HU := Lib.hid (HT.out.trans t2)
      clear h2 t2
      go_wp2_with fail
      first | go_end0 | refine bodyPost_ret (results_none rfl _ _ _) rfl ?_
      refine ⟨rfl, ?_, HU.out⟩
      rw [← HE.out, ← rot_eq k m i (by omega)]
      exact HN.out
    · have z1 : ((i : Int) != (j : Int)) = true := by rw [bne_iff_ne]; omega
      have z2 : (j : Int) < (i : Int) := by omega
      have s6 : IntKind.i64.wrap ((i : Int) - (j : Int)) = ((i - j : Nat) : Int) := by rw [IntWalk.i64_in _ (by omega)]; omega
      have HS2 := Lib.hid (swr_any (cmp := cmp) (c := c) (a := m - i) (b := m) (m := j) HR.out (by omega) (by omega) hc hcm)
      go_wp2_with fail
      refine HS2.out.mono ?_
      rintro e w2 ⟨rfl, h2, t2⟩
      have HN := Lib.hid h2
      have HU := Lib.hid (HT.out.trans t2)
      have HF := Lib.hid ((rot_gt k m i j hij (by omega)).trans HE.out)
      clear h2 t2
      go_wp2_with fail
      go_roundw
      case rel => exact ⟨i - j, j, _, by omega, hj0, by omega, hj, by go_num, rfl, HF, HN, HU⟩
      case measure => simp [intOf]; omega
end Go.Proofs.Ytjbljplgkbnpmaa
