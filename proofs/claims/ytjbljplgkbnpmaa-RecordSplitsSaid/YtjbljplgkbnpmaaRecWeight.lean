/- What a record weighs: the program's answer and the document's, walked. Written by genrecweight.py. -/
import Derived.Test.YtjbljplgkbnpmaaRecRight
namespace Go.Proofs.Ytjbljplgkbnpmaa
open Go.RowKit LabPlain RecPlain
set_option linter.unusedVariables false

theorem labW_le (L : List Lab) {i n : Nat} (h : i ≤ n) : labW L i ≤ labW L n := by
  induction h with
  | refl => exact Nat.le_refl _
  | step _ ih => rw [labW]; omega
set_option maxRecDepth 100000 in
set_option maxHeartbeats 2000000 in
theorem weight_any {w : World} {k t : Int} {la : Option Addr} {ln lc : Nat} {L : List Lab} {tx : ByteArray} {v : Int} {nl : Bool} (hr : isRec ⟨k, t, la, ln, lc, L, tx, v, nl⟩ = true) (h : LabsAt w la ln lc L) :
    Calls Try.prog 75 #[.agg #[.int .i64 k, .int .i64 t, .slice la ln lc, .string tx, .int .i64 v, .bool nl]] w fun e w' => e = .returned (.int .i64 (weightOf ⟨k, t, la, ln, lc, L, tx, v, nl⟩ : Nat)) ∧ Below w.heap.size w w' := by
  have hW := weight_rec hr
  have hWd : weightOf ⟨k, t, la, ln, lc, L, tx, v, nl⟩ = 16 + tx.size + labW L ln := by unfold weightOf; simp only [h.len]
  obtain ⟨wt, hwt⟩ : ∃ wt, wt = weightOf ⟨k, t, la, ln, lc, L, tx, v, nl⟩ := ⟨_, rfl⟩
  rw [← hwt] at hW hWd ⊢
  clear hwt hr
  obtain ⟨w1, hw1⟩ : ∃ w1, w1 = w.alloc (.cells #[.int .i64 k, .int .i64 t, .slice la ln lc, .string tx, .int .i64 v, .bool nl] 54) := ⟨_, rfl⟩
  have hb1 : Below w.heap.size w w1 := by rw [hw1]; exact (Below.refl _ _).alloc (Nat.le_refl _) _
  have HB1 := Lib.hid hb1
  have hk := h.kept hb1
  have hlen := h.len
  have hcap := h.cap
  have hcm := h.capm
  have HH := Lib.hid h
  have HL := Lib.hid hlen
  have htx : tx.size ≤ 312 := by omega
  have HWD := Lib.hid hWd
  rw [hw1] at HB1
  subst hw1
  clear h hk hb1 hlen hWd
  go_enter Try.func75, Try.ntmps75
  go_wp2_with fail
  go_loopw [3, 13] (fun s3 s13 wr => ∃ i m : Nat, i ≤ ln ∧ s3 = .int .i64 (m : Int) ∧ s13 = .int .i64 (i : Int) ∧ Hid (m = 16 + tx.size + labW L i) ∧ Hid (Below w.heap.size w wr)) (fun _ s13 _ => ln - (intOf s13).toNat)
  case atStart => exact ⟨0, 16 + tx.size, by omega, by go_num, rfl, Lib.hid rfl, HB1⟩
  case round =>
    obtain ⟨i, m, hi, rfl, rfl, HM, HB⟩ := hrel
    rename World => wr
    have hmle : m ≤ 312 := by
      have := labW_le L hi
      have := HM.out
      have := HWD.out
      omega
    by_cases hin : i < ln
    · have hkp : LabsAt wr la ln lc L := HH.out.kept HB.out
      obtain ⟨b, off, rfl, hlt, hcell⟩ := hkp.cells (by omega)
      obtain ⟨h1, h2⟩ := hcell i hin
      obtain ⟨x1, hx1⟩ : ∃ x, x = (L.getD i lab0).1 := ⟨_, rfl⟩
      obtain ⟨x2, hx2⟩ : ∃ x, x = (L.getD i lab0).2 := ⟨_, rfl⟩
      have hm2 : m + (x1.size + x2.size) ≤ 312 := by
        have := labW_le L (show i + 1 ≤ ln from hin)
        rw [labW, ← hx1, ← hx2] at this
        have := HM.out
        have := HWD.out
        omega
      have HM2 := Lib.hid (show m + (x1.size + x2.size) = 16 + tx.size + labW L (i + 1) by rw [labW, ← hx1, ← hx2, HM.out]; omega)
      rw [← hx1] at h1
      rw [← hx2] at h2
      have HB2 := Lib.hid (HB.out.alloc HB.out.size (.cells #[.string x1, .string x2] 41))
      clear hx1 hx2 hcell hkp
      go_wp2_with fail
      go_roundw
      case rel => exact ⟨i + 1, m + (x1.size + x2.size), by omega, by go_num, by go_num, HM2, HB2⟩
      case measure => simp [intOf]; omega
    · obtain rfl : i = ln := by omega
      have HT := Lib.hid (show (m : Int) = (wt : Int) by rw [HM.out, HWD.out])
      clear hin
      go_wp2_with fail
      go_ret
      rw [← HT.out]; exact ⟨rfl, HB.out⟩

set_option maxRecDepth 100000 in
set_option maxHeartbeats 2000000 in
theorem rweight_any {w : World} {k t : Int} {la : Option Addr} {ln lc : Nat} {L : List Lab} {tx : ByteArray} {v : Int} {nl : Bool} (hr : isRec ⟨k, t, la, ln, lc, L, tx, v, nl⟩ = true) (h : LabsAt w la ln lc L) :
    Calls Try.prog 76 #[.agg #[.int .i64 k, .int .i64 t, .slice la ln lc, .string tx, .int .i64 v, .bool nl]] w fun e w' => e = .returned (.int .i64 (weightOf ⟨k, t, la, ln, lc, L, tx, v, nl⟩ : Nat)) ∧ Below w.heap.size w w' := by
  have hW := weight_rec hr
  have hWd : weightOf ⟨k, t, la, ln, lc, L, tx, v, nl⟩ = 16 + tx.size + labW L ln := by unfold weightOf; simp only [h.len]
  obtain ⟨wt, hwt⟩ : ∃ wt, wt = weightOf ⟨k, t, la, ln, lc, L, tx, v, nl⟩ := ⟨_, rfl⟩
  rw [← hwt] at hW hWd ⊢
  clear hwt hr
  obtain ⟨w1, hw1⟩ : ∃ w1, w1 = w.alloc (.cells #[.int .i64 k, .int .i64 t, .slice la ln lc, .string tx, .int .i64 v, .bool nl] 54) := ⟨_, rfl⟩
  have hb1 : Below w.heap.size w w1 := by rw [hw1]; exact (Below.refl _ _).alloc (Nat.le_refl _) _
  have HB1 := Lib.hid hb1
  have hk := h.kept hb1
  have hlen := h.len
  have hcap := h.cap
  have hcm := h.capm
  have HH := Lib.hid h
  have HL := Lib.hid hlen
  have htx : tx.size ≤ 312 := by omega
  have HWD := Lib.hid hWd
  rw [hw1] at HB1
  subst hw1
  clear h hk hb1 hlen hWd
  go_enter Try.func76, Try.ntmps76
  go_wp2_with fail
  go_loopw [3, 13] (fun s3 s13 wr => ∃ i m : Nat, i ≤ ln ∧ s3 = .int .i64 (m : Int) ∧ s13 = .int .i64 (i : Int) ∧ Hid (m = 16 + tx.size + labW L i) ∧ Hid (Below w.heap.size w wr)) (fun _ s13 _ => ln - (intOf s13).toNat)
  case atStart => exact ⟨0, 16 + tx.size, by omega, by go_num, rfl, Lib.hid rfl, HB1⟩
  case round =>
    obtain ⟨i, m, hi, rfl, rfl, HM, HB⟩ := hrel
    rename World => wr
    have hmle : m ≤ 312 := by
      have := labW_le L hi
      have := HM.out
      have := HWD.out
      omega
    by_cases hin : i < ln
    · have hkp : LabsAt wr la ln lc L := HH.out.kept HB.out
      obtain ⟨b, off, rfl, hlt, hcell⟩ := hkp.cells (by omega)
      obtain ⟨h1, h2⟩ := hcell i hin
      obtain ⟨x1, hx1⟩ : ∃ x, x = (L.getD i lab0).1 := ⟨_, rfl⟩
      obtain ⟨x2, hx2⟩ : ∃ x, x = (L.getD i lab0).2 := ⟨_, rfl⟩
      have hm2 : m + (x1.size + x2.size) ≤ 312 := by
        have := labW_le L (show i + 1 ≤ ln from hin)
        rw [labW, ← hx1, ← hx2] at this
        have := HM.out
        have := HWD.out
        omega
      have HM2 := Lib.hid (show m + (x1.size + x2.size) = 16 + tx.size + labW L (i + 1) by rw [labW, ← hx1, ← hx2, HM.out]; omega)
      rw [← hx1] at h1
      rw [← hx2] at h2
      have HB2 := Lib.hid (HB.out.alloc HB.out.size (.cells #[.string x1, .string x2] 41))
      clear hx1 hx2 hcell hkp
      go_wp2_with fail
      go_roundw
      case rel => exact ⟨i + 1, m + (x1.size + x2.size), by omega, by go_num, by go_num, HM2, HB2⟩
      case measure => simp [intOf]; omega
    · obtain rfl : i = ln := by omega
      have HT := Lib.hid (show (m : Int) = (wt : Int) by rw [HM.out, HWD.out])
      clear hin
      go_wp2_with fail
      go_ret
      rw [← HT.out]; exact ⟨rfl, HB.out⟩
end Go.Proofs.Ytjbljplgkbnpmaa
