/- Put together out of XRecWeight, XRecEach, XRecCheck. -/
import Derived.Test.YtjbljplgkbnpmaaRecRight
import Derived.Test.YtjbljplgkbnpmaaRecRRight
section SecRecChk0
/- What a record weighs: the program's answer and the document's, walked. Written by genrecweight.py. -/
namespace Go.Proofs.Ytjbljplgkbnpmaa
open Go.RowKit LabPlain RecPlain
set_option linter.unusedVariables false

theorem labW_le (L : List Lab) {i n : Nat} (h : i ≤ n) : labW L i ≤ labW L n := by
  induction h with
  | refl => exact Nat.le_refl _
  | step _ ih => rw [labW]; omega
set_option maxRecDepth 100000 in
set_option maxHeartbeats 2000000 in
theorem weight_any {w : World} {k t : Int} {la : Option Addr} {ln lc : Nat} {L : List Lab} {tx : ByteArray} {v : Int} {nl : Bool} (hr : isRec ⟨k, t, la, ln, lc, L, tx, v, nl⟩ = true) (h : LabsAt w la ln lc L) :
    Calls Try.prog 75 #[.agg #[.int .i64 k, .int .i64 t, .slice la ln lc, .string tx, .int .i64 v, .bool nl]] w fun e w' => e = .returned (.int .i64 (weightOf ⟨k, t, la, ln, lc, L, tx, v, nl⟩ : Nat)) ∧ Below w.heap.size w w' := by
  have hW := weight_rec hr
  have hWd : weightOf ⟨k, t, la, ln, lc, L, tx, v, nl⟩ = 16 + tx.size + labW L ln := by unfold weightOf; simp only [h.len]
  obtain ⟨wt, hwt⟩ : ∃ wt, wt = weightOf ⟨k, t, la, ln, lc, L, tx, v, nl⟩ := ⟨_, rfl⟩
  rw [← hwt] at hW hWd ⊢
  clear hwt hr
  obtain ⟨w1, hw1⟩ : ∃ w1, w1 = w.alloc (.cells #[.int .i64 k, .int .i64 t, .slice la ln lc, .string tx, .int .i64 v, .bool nl] 54) := ⟨_, rfl⟩
  have hb1 : Below w.heap.size w w1 := by rw [hw1]; exact (Below.refl _ _).alloc (Nat.le_refl _) _
  have HB1 := Lib.hid hb1
  have hk := h.kept hb1
  have hlen := h.len
  have hcap := h.cap
  have hcm := h.capm
  have HH := Lib.hid h
  have HL := Lib.hid hlen
  have htx : tx.size ≤ 312 := by omega
  have HWD := Lib.hid hWd
  rw [hw1] at HB1
  subst hw1
  clear h hk hb1 hlen hWd
  go_enter Try.func75, Try.ntmps75
  go_wp2_with fail
  go_loopw [3, 13] (fun s3 s13 wr => ∃ i m : Nat, i ≤ ln ∧ s3 = .int .i64 (m : Int) ∧ s13 = .int .i64 (i : Int) ∧ Hid (m = 16 + tx.size + labW L i) ∧ Hid (Below w.heap.size w wr)) (fun _ s13 _ => ln - (intOf s13).toNat)
  case atStart => exact ⟨0, 16 + tx.size, by omega, by go_num, rfl, Lib.hid rfl, HB1⟩
  case round =>
    obtain ⟨i, m, hi, rfl, rfl, HM, HB⟩ := hrel
    rename World => wr
    have hmle : m ≤ 312 := by
      have := labW_le L hi
      have := HM.out
      have := HWD.out
      omega
    by_cases hin : i < ln
    · have hkp : LabsAt wr la ln lc L := HH.out.kept HB.out
      obtain ⟨b, off, rfl, hlt, hcell⟩ := hkp.cells (by omega)
      obtain ⟨h1, h2⟩ := hcell i hin
      obtain ⟨x1, hx1⟩ : ∃ x, x = (L.getD i lab0).1 := ⟨_, rfl⟩
      obtain ⟨x2, hx2⟩ : ∃ x, x = (L.getD i lab0).2 := ⟨_, rfl⟩
      have hm2 : m + (x1.size + x2.size) ≤ 312 := by
        have := labW_le L (show i + 1 ≤ ln from hin)
        rw [labW, ← hx1, ← hx2] at this
        have := HM.out
        have := HWD.out
        omega
      have HM2 := Lib.hid (show m + (x1.size + x2.size) = 16 + tx.size + labW L (i + 1) by rw [labW, ← hx1, ← hx2, HM.out]; omega)
      rw [← hx1] at h1
      rw [← hx2] at h2
      have HB2 := Lib.hid (HB.out.alloc HB.out.size (.cells #[.string x1, .string x2] 41))
      clear hx1 hx2 hcell hkp
      go_wp2_with fail
      go_roundw
      case rel => exact ⟨i + 1, m + (x1.size + x2.size), by omega, by go_num, by go_num, HM2, HB2⟩
      case measure => simp [intOf]; omega
    · obtain rfl : i = ln := by omega
      have HT := Lib.hid (show (m : Int) = (wt : Int) by rw [HM.out, HWD.out])
      clear hin
      go_wp2_with fail
      go_ret
      rw [← HT.out]; exact ⟨rfl, HB.out⟩

set_option maxRecDepth 100000 in
set_option maxHeartbeats 2000000 in
theorem rweight_any {w : World} {k t : Int} {la : Option Addr} {ln lc : Nat} {L : List Lab} {tx : ByteArray} {v : Int} {nl : Bool} (hr : isRec ⟨k, t, la, ln, lc, L, tx, v, nl⟩ = true) (h : LabsAt w la ln lc L) :
    Calls Try.prog 76 #[.agg #[.int .i64 k, .int .i64 t, .slice la ln lc, .string tx, .int .i64 v, .bool nl]] w fun e w' => e = .returned (.int .i64 (weightOf ⟨k, t, la, ln, lc, L, tx, v, nl⟩ : Nat)) ∧ Below w.heap.size w w' := by
  have hW := weight_rec hr
  have hWd : weightOf ⟨k, t, la, ln, lc, L, tx, v, nl⟩ = 16 + tx.size + labW L ln := by unfold weightOf; simp only [h.len]
  obtain ⟨wt, hwt⟩ : ∃ wt, wt = weightOf ⟨k, t, la, ln, lc, L, tx, v, nl⟩ := ⟨_, rfl⟩
  rw [← hwt] at hW hWd ⊢
  clear hwt hr
  obtain ⟨w1, hw1⟩ : ∃ w1, w1 = w.alloc (.cells #[.int .i64 k, .int .i64 t, .slice la ln lc, .string tx, .int .i64 v, .bool nl] 54) := ⟨_, rfl⟩
  have hb1 : Below w.heap.size w w1 := by rw [hw1]; exact (Below.refl _ _).alloc (Nat.le_refl _) _
  have HB1 := Lib.hid hb1
  have hk := h.kept hb1
  have hlen := h.len
  have hcap := h.cap
  have hcm := h.capm
  have HH := Lib.hid h
  have HL := Lib.hid hlen
  have htx : tx.size ≤ 312 := by omega
  have HWD := Lib.hid hWd
  rw [hw1] at HB1
  subst hw1
  clear h hk hb1 hlen hWd
  go_enter Try.func76, Try.ntmps76
  go_wp2_with fail
  go_loopw [3, 13] (fun s3 s13 wr => ∃ i m : Nat, i ≤ ln ∧ s3 = .int .i64 (m : Int) ∧ s13 = .int .i64 (i : Int) ∧ Hid (m = 16 + tx.size + labW L i) ∧ Hid (Below w.heap.size w wr)) (fun _ s13 _ => ln - (intOf s13).toNat)
  case atStart => exact ⟨0, 16 + tx.size, by omega, by go_num, rfl, Lib.hid rfl, HB1⟩
  case round =>
    obtain ⟨i, m, hi, rfl, rfl, HM, HB⟩ := hrel
    rename World => wr
    have hmle : m ≤ 312 := by
      have := labW_le L hi
      have := HM.out
      have := HWD.out
      omega
    by_cases hin : i < ln
    · have hkp : LabsAt wr la ln lc L := HH.out.kept HB.out
      obtain ⟨b, off, rfl, hlt, hcell⟩ := hkp.cells (by omega)
      obtain ⟨h1, h2⟩ := hcell i hin
      obtain ⟨x1, hx1⟩ : ∃ x, x = (L.getD i lab0).1 := ⟨_, rfl⟩
      obtain ⟨x2, hx2⟩ : ∃ x, x = (L.getD i lab0).2 := ⟨_, rfl⟩
      have hm2 : m + (x1.size + x2.size) ≤ 312 := by
        have := labW_le L (show i + 1 ≤ ln from hin)
        rw [labW, ← hx1, ← hx2] at this
        have := HM.out
        have := HWD.out
        omega
      have HM2 := Lib.hid (show m + (x1.size + x2.size) = 16 + tx.size + labW L (i + 1) by rw [labW, ← hx1, ← hx2, HM.out]; omega)
      rw [← hx1] at h1
      rw [← hx2] at h2
      have HB2 := Lib.hid (HB.out.alloc HB.out.size (.cells #[.string x1, .string x2] 41))
      clear hx1 hx2 hcell hkp
      go_wp2_with fail
      go_roundw
      case rel => exact ⟨i + 1, m + (x1.size + x2.size), by omega, by go_num, by go_num, HM2, HB2⟩
      case measure => simp [intOf]; omega
    · obtain rfl : i = ln := by omega
      have HT := Lib.hid (show (m : Int) = (wt : Int) by rw [HM.out, HWD.out])
      clear hin
      go_wp2_with fail
      go_ret
      rw [← HT.out]; exact ⟨rfl, HB.out⟩
end Go.Proofs.Ytjbljplgkbnpmaa
end SecRecChk0
section SecRecChk1
/- Do all records hold: record.each with its function value, walked. -/
namespace Go.Proofs.Ytjbljplgkbnpmaa
open Go.RowKit LabPlain RecPlain
set_option linter.unusedVariables false

set_option maxRecDepth 100000 in
set_option maxHeartbeats 2000000 in
theorem clo_any {w : World} {k t : Int} {la : Option Addr} {ln lc : Nat} {L : List Lab} {tx : ByteArray} {v : Int} {nl : Bool} (hf : RecV.fits ⟨k, t, la, ln, lc, L, tx, v, nl⟩) (h : LabsAt w la ln lc L) {B : Nat} (hB : B < w.heap.size) (hc : w.cell? ⟨B, 0, none⟩ = some (.func (.func 33) #[] #[])) :
    Calls Try.prog 99 #[.agg #[.int .i64 k, .int .i64 t, .slice la ln lc, .string tx, .int .i64 v, .bool nl], .pointer (some ⟨B, 0, none⟩)] w fun e w' => e = .returned (.bool (!isRec ⟨k, t, la, ln, lc, L, tx, v, nl⟩)) ∧ Below w.heap.size w w' := by
  obtain ⟨w1, hw1⟩ : ∃ w1, w1 = w.alloc (.cells #[.int .i64 k, .int .i64 t, .slice la ln lc, .string tx, .int .i64 v, .bool nl] 54) := ⟨_, rfl⟩
  have hb1 : Below w.heap.size w w1 := by rw [hw1]; exact (Below.refl _ _).alloc (Nat.le_refl _) _
  have HR := Lib.hid (recright_any hf (h.kept hb1))
  have c1 := (hb1.cell (p := ⟨B, 0, none⟩) hB).trans hc
  have HB1 := Lib.hid hb1
  rw [hw1] at HR HB1 c1
  have HR := Lib.hid HR.out
  clear h hb1 hf hc
  subst hw1
  go_enter Try.func99, Try.ntmps99
  go_wp2_with fail
  refine HR.out.mono ?_
  rintro e w2 ⟨rfl, hb2⟩
  have HB2 := Lib.hid (HB1.out.trans (hb2.mono HB1.out.size))
  clear hb2
  go_wp2_with fail
  go_ret
  exact ⟨rfl, HB2.out⟩

set_option maxRecDepth 100000 in
set_option maxHeartbeats 2000000 in
theorem index_any {w : World} {a : Option Addr} {n c : Nat} {l : List RecV} (h : RecsAt w a n c l) {B : Nat} (hB : B < w.heap.size) (hc : w.cell? ⟨B, 0, none⟩ = some (.func (.func 33) #[] #[])) :
    Calls Try.prog 110 #[.slice a n c, .func (.func 99) #[] #[.pointer (some ⟨B, 0, none⟩)]] w fun e w' => (∃ z : Int, e = .returned (.int .i64 z) ∧ (decide (0 ≤ z)) = !allR l n) ∧ Below w.heap.size w w' := by
  have hlen := h.len
  have hcap := h.cap
  have hcm := h.capm
  have HH := Lib.hid h
  have HL := Lib.hid hlen
  have HC := Lib.hid hc
  clear h hlen hc
  go_enter Try.func110, Try.ntmps110
  go_wp2_with fail
  go_loopw [8] (fun s8 wr => ∃ k : Nat, k ≤ n ∧ s8 = .int .i64 (k : Int) ∧ Hid (allR l k = true) ∧ Hid (Below w.heap.size w wr)) (fun s8 _ => n - (intOf s8).toNat)
  case atStart => exact ⟨0, by omega, rfl, Lib.hid rfl, Lib.hid (Below.refl _ _)⟩
  case round =>
    obtain ⟨k, hk, rfl, HU, HB⟩ := hrel
    rename World => wr
    by_cases hkn : k < n
    · have hkp := HH.out.kept HB.out
      obtain ⟨b, off, rfl, hlt, hcell⟩ := hkp.cells (by omega)
      have hfit := hkp.fits _ (rec_mem (l := l) (i := k) (by have := HL.out; omega))
      have hlab := hkp.labs _ (rec_mem (l := l) (i := k) (by have := HL.out; omega))
      obtain ⟨r, hr⟩ : ∃ r, r = l.getD k rec0 := ⟨_, rfl⟩
      obtain ⟨c0, c1, c2, c3, c4, c5⟩ := RecsAt.six hcell hkn hr
      rw [← hr] at hfit hlab
      have HR := Lib.hid hr
      clear hr hcell hkp
      obtain ⟨kd, tm, la, ln, lc, L, tx, v, nl⟩ := r
      have cf : wr.cell? ⟨B, 0, none⟩ = some (.func (.func 33) #[] #[]) := (HB.out.cell (p := ⟨B, 0, none⟩) hB).trans HC.out
      simp only at c0 c1 c2 c3 c4 c5 hlab
      have HFIT := Lib.hid hfit
      have HLAB := Lib.hid hlab
      clear hfit hlab
      have HCL := Lib.hid (clo_any HFIT.out HLAB.out (Nat.lt_of_lt_of_le hB HB.out.size) cf)
      cases hir : isRec ⟨kd, tm, la, ln, lc, L, tx, v, nl⟩ with
      | true =>
        have HU2 := Lib.hid (show allR l (k + 1) = true by rw [allR, HU.out, ← HR.out, hir]; rfl)
        rw [hir] at HCL
        clear hir
        go_wp2_with fail
        refine HCL.out.mono ?_
        rintro e w2 ⟨rfl, hb2⟩
        have HB2 := Lib.hid (HB.out.trans (hb2.mono HB.out.size))
        clear hb2
        go_wp2_with fail
        go_roundw
        case rel => exact ⟨k + 1, by omega, by go_num, HU2, HB2⟩
        case measure => simp [intOf]; omega
      | false =>
        have HF := Lib.hid (show allR l n = false by
          have := allR_no (l := l) (k := k) (by rw [← HR.out]; exact hir) (n - (k + 1))
          rw [show k + 1 + (n - (k + 1)) = n from by omega] at this
          exact this)
        rw [hir] at HCL
        clear hir
        go_wp2_with fail
        refine HCL.out.mono ?_
        rintro e w2 ⟨rfl, hb2⟩
        have HB2 := Lib.hid (HB.out.trans (hb2.mono HB.out.size))
        clear hb2
        go_wp2_with fail
        go_ret
        exact ⟨⟨_, rfl, by rw [HF.out]; simp⟩, HB2.out⟩
    · obtain rfl : k = n := by omega
      have HT := Lib.hid HU.out
      clear hkn
      go_wp2_with fail
      go_ret
      exact ⟨⟨_, rfl, by rw [HT.out]; rfl⟩, HB.out⟩

set_option maxRecDepth 100000 in
set_option maxHeartbeats 2000000 in
theorem contains_any {w : World} {a : Option Addr} {n c : Nat} {l : List RecV} (h : RecsAt w a n c l) {B : Nat} (hB : B < w.heap.size) (hc : w.cell? ⟨B, 0, none⟩ = some (.func (.func 33) #[] #[])) :
    Calls Try.prog 98 #[.slice a n c, .func (.func 99) #[] #[.pointer (some ⟨B, 0, none⟩)]] w fun e w' => e = .returned (.bool (!allR l n)) ∧ Below w.heap.size w w' := by
  have HI := Lib.hid (index_any h hB hc)
  clear h hc
  go_enter Try.func98, Try.ntmps98
  go_wp2_with fail
  refine HI.out.mono ?_
  rintro e w2 ⟨⟨z, rfl, hz⟩, hb2⟩
  have HZ := Lib.hid hz
  have HB2 := Lib.hid hb2
  clear hb2 hz
  go_wp2_with fail
  go_ret
  exact ⟨by rw [← HZ.out]; rfl, HB2.out⟩

set_option maxRecDepth 100000 in
set_option maxHeartbeats 2000000 in
theorem each_any {w : World} {a : Option Addr} {n c : Nat} {l : List RecV} (h : RecsAt w a n c l) :
    Calls Try.prog 74 #[.slice a n c, .func (.func 33) #[] #[]] w fun e w' => e = .returned (.bool (allR l n)) ∧ Below w.heap.size w w' := by
  obtain ⟨w1, hw1⟩ : ∃ w1, w1 = w.alloc (.cells #[.func (.func 33) #[] #[]] 55) := ⟨_, rfl⟩
  have hb1 : Below w.heap.size w w1 := by rw [hw1]; exact (Below.refl _ _).alloc (Nat.le_refl _) _
  have hlt : w.heap.size < w1.heap.size := by rw [hw1]; exact (Array.getElem?_eq_some_iff.1 (heap_alloc_new w _)).1
  have hcell : w1.cell? ⟨w.heap.size, 0, none⟩ = some (.func (.func 33) #[] #[]) := by rw [hw1]; exact box_cell (Below.refl _ _) rfl
  have HI := Lib.hid (contains_any (h.kept hb1) hlt hcell)
  have HB1 := Lib.hid hb1
  rw [hw1] at HI HB1
  have HI := Lib.hid HI.out
  clear h hb1 hlt hcell
  subst hw1
  go_enter Try.func74, Try.ntmps74
  go_wp2_with fail
  refine HI.out.mono ?_
  rintro e w2 ⟨rfl, hb2⟩
  have HB2 := Lib.hid (HB1.out.trans (hb2.mono HB1.out.size))
  clear hb2
  go_wp2_with fail
  go_ret
  exact ⟨by simp, HB2.out⟩
end Go.Proofs.Ytjbljplgkbnpmaa
end SecRecChk1
section SecRecChk2
/- May it be a batch: the program's answer and the document's, walked. Written by genreccheck.py. -/
namespace Go.Proofs.Ytjbljplgkbnpmaa
open Go.RowKit LabPlain RecPlain
set_option linter.unusedVariables false

theorem allR_le {l : List RecV} {n i : Nat} (h : allR l n = true) (hi : i ≤ n) : allR l i = true := by
  induction hi with
  | refl => exact h
  | step _ ih => rw [allR, Bool.and_eq_true] at h; exact ih h.1
set_option maxRecDepth 100000 in
set_option maxHeartbeats 4000000 in
theorem check_any {w : World} {mk sq : Int} {a : Option Addr} {n c : Nat} {l : List RecV} (h : RecsAt w a n c l) :
    Calls Try.prog 35 #[.agg #[.int .i64 mk, .int .i64 sq, .slice a n c]] w fun e w' => e = .returned (.int .i64 (checkOf mk sq l)) ∧ Below w.heap.size w w' := by
  obtain ⟨w1, hw1⟩ : ∃ w1, w1 = w.alloc (.cells #[.int .i64 mk, .int .i64 sq, .slice a n c] 52) := ⟨_, rfl⟩
  have hb1 : Below w.heap.size w w1 := by rw [hw1]; exact (Below.refl _ _).alloc (Nat.le_refl _) _
  have HRA := Lib.hid (h.kept hb1)
  have HB1 := Lib.hid hb1
  have hcap := h.cap
  have hcm := h.capm
  have HH := Lib.hid h
  have HL := Lib.hid h.len
  rw [hw1] at HRA HB1
  clear h hb1
  subst hw1
  by_cases h64 : 64 < n
  · have h64i : (64 : Int) < (n : Int) := by omega
    have HF := Lib.hid (show checkOf mk sq l = 14 by unfold checkOf; rw [if_pos (by rw [HL.out]; exact h64)])
    clear h64
    go_enter Try.func35, Try.ntmps35
    go_wp2_with fail
    go_ret
    rw [HF.out]; exact ⟨rfl, HB1.out⟩
  · have h64i : (n : Int) ≤ 64 := by omega
    by_cases hms : 1 ≤ mk ∧ mk ≤ 64 ∧ 1 ≤ sq ∧ sq ≤ 1099511627775
    case neg =>
      have HF := Lib.hid (show checkOf mk sq l = 4 by unfold checkOf; rw [if_neg (by rw [HL.out]; exact h64), if_pos (by simp; omega)])
      clear h64
      cases hm : (decide (1 ≤ mk) && decide (mk ≤ 64)) with
      | false =>
        have HWM := Lib.hid (fun w => within_any mk 1 64 w)
        rw [hm] at HWM
        clear hm hms
        go_enter Try.func35, Try.ntmps35
        go_wp2_with fail
        refine (HWM.out _).mono ?_
        rintro e w2 ⟨rfl, rfl⟩
        go_wp2_with fail
        go_ret
        rw [HF.out]; exact ⟨rfl, HB1.out⟩
      | true =>
        have HWM := Lib.hid (fun w => within_any mk 1 64 w)
        rw [hm] at HWM
        have HWS := Lib.hid (fun w => within_any sq 1 1099511627775 w)
        rw [show (decide (1 ≤ sq) && decide (sq ≤ 1099511627775)) = false by simp at hm ⊢; omega] at HWS
        clear hm hms
        go_enter Try.func35, Try.ntmps35
        go_wp2_with fail
        refine (HWM.out _).mono ?_
        rintro e w2 ⟨rfl, rfl⟩
        go_wp2_with fail
        refine (HWS.out _).mono ?_
        rintro e w2 ⟨rfl, rfl⟩
        go_wp2_with fail
        go_ret
        rw [HF.out]; exact ⟨rfl, HB1.out⟩
    case pos =>
      obtain ⟨g1, g2, g3, g4⟩ := hms
      have HC := Lib.hid (show checkOf mk sq l = (if l.length = 0 then 4 else if !(allR l l.length) then 4 else if 4096 < sumW l l.length then 14 else 0) by unfold checkOf; rw [if_neg (by rw [HL.out]; exact h64), if_neg (by simp [g1, g2, g3, g4])])
      have hn64 : n ≤ 64 := by omega
      clear h64
      have HWM := Lib.hid (fun w => within_any mk 1 64 w)
      rw [show (decide (1 ≤ mk) && decide (mk ≤ 64)) = true by simp [g1, g2]] at HWM
      have HWS := Lib.hid (fun w => within_any sq 1 1099511627775 w)
      rw [show (decide (1 ≤ sq) && decide (sq ≤ 1099511627775)) = true by simp [g3, g4]] at HWS
      clear g1 g2 g3 g4
      by_cases hn0 : n = 0
      · subst hn0
        have HF := Lib.hid (show checkOf mk sq l = 4 by rw [HC.out, if_pos HL.out])
        go_enter Try.func35, Try.ntmps35
        go_wp2_with fail
        refine (HWM.out _).mono ?_
        rintro e w2 ⟨rfl, rfl⟩
        go_wp2_with fail
        refine (HWS.out _).mono ?_
        rintro e w2 ⟨rfl, rfl⟩
        go_wp2_with fail
        go_ret
        rw [HF.out]; exact ⟨rfl, HB1.out⟩
      · have hn0i : ((n : Int) == 0) = false := by rw [beq_eq_false_iff_ne]; omega
        have HC := Lib.hid (HC.out.trans (if_neg (by rw [HL.out]; exact hn0)))
        have HEA := Lib.hid (each_any HRA.out)
        cases hall : allR l n with
        | false =>
          have HF := Lib.hid (show checkOf mk sq l = 4 by rw [HC.out, if_pos (by rw [HL.out, hall]; rfl)])
          rw [hall] at HEA
          clear hall hn0
          go_enter Try.func35, Try.ntmps35
          go_wp2_with fail
          refine (HWM.out _).mono ?_
          rintro e w2 ⟨rfl, rfl⟩
          go_wp2_with fail
          refine (HWS.out _).mono ?_
          rintro e w2 ⟨rfl, rfl⟩
          go_wp2_with fail
          refine HEA.out.mono ?_
          rintro e w2 ⟨rfl, hb2⟩
          have HB2 := Lib.hid (HB1.out.trans (hb2.mono HB1.out.size))
          have c2 := box_cell hb2 (i := 2) rfl
          clear hb2
          go_wp2_with fail
          go_ret
          rw [HF.out]; exact ⟨rfl, HB2.out⟩
        | true =>
          have HC := Lib.hid (HC.out.trans (if_neg (by rw [HL.out, hall]; simp)))
          rw [hall] at HEA
          have HALL := Lib.hid hall
          clear hall hn0
          go_enter Try.func35, Try.ntmps35
          go_wp2_with fail
          refine (HWM.out _).mono ?_
          rintro e w2 ⟨rfl, rfl⟩
          go_wp2_with fail
          refine (HWS.out _).mono ?_
          rintro e w2 ⟨rfl, rfl⟩
          go_wp2_with fail
          refine HEA.out.mono ?_
          rintro e w2 ⟨rfl, hb2⟩
          have HB2 := Lib.hid (HB1.out.trans (hb2.mono HB1.out.size))
          have c2 := box_cell hb2 (i := 2) rfl
          clear hb2
          go_wp2_with fail
          go_loopw [3, 33] (fun s3 s33 wr => ∃ i m : Nat, i ≤ n ∧ s3 = .int .i64 (m : Int) ∧ s33 = .int .i64 (i : Int) ∧ Hid (m = sumW l i) ∧ Hid (Below w.heap.size w wr)) (fun _ s33 _ => n - (intOf s33).toNat)
          case atStart => exact ⟨0, 0, by omega, rfl, rfl, Lib.hid rfl, HB2⟩
          case round =>
            obtain ⟨i, m, hi, rfl, rfl, HM, HB⟩ := hrel
            rename World => wr
            have hmle : m ≤ 312 * i := by rw [HM.out]; exact sumW_le i (allR_le HALL.out hi)
            by_cases hin : i < n
            · have hkp := HH.out.kept HB.out
              obtain ⟨b, off, rfl, hlt, hcell⟩ := hkp.cells (by omega)
              have hlab := hkp.labs _ (rec_mem (l := l) (i := i) (by have := HL.out; omega))
              have hir := allR_upto HALL.out i hin
              obtain ⟨r, hr⟩ : ∃ r, r = l.getD i rec0 := ⟨_, rfl⟩
              obtain ⟨d0, d1, d2, d3, d4, d5⟩ := RecsAt.six hcell hin hr
              have hwr := weight_rec hir
              have HM2 := Lib.hid (show m + weightOf (l.getD i rec0) = sumW l (i + 1) by rw [sumW, HM.out])
              rw [← hr] at hlab hir hwr HM2
              clear hr hcell hkp
              obtain ⟨kd, tm, la, ln, lc, L, tx, v, nl⟩ := r
              simp only at d0 d1 d2 d3 d4 d5 hlab
              have HWG := Lib.hid (weight_any hir (hlab.kept ((Below.refl _ _).alloc (Nat.le_refl _) (.cells #[.int .i64 kd, .int .i64 tm, .slice la ln lc, .string tx, .int .i64 v, .bool nl] 54))))
              have HB3 := Lib.hid (HB.out.alloc HB.out.size (.cells #[.int .i64 kd, .int .i64 tm, .slice la ln lc, .string tx, .int .i64 v, .bool nl] 54))
              obtain ⟨wt, hwt⟩ : ∃ wt, wt = weightOf ⟨kd, tm, la, ln, lc, L, tx, v, nl⟩ := ⟨_, rfl⟩
              rw [← hwt] at HWG HM2 hwr
              clear hwt hlab hir
              go_wp2_with fail
              refine HWG.out.mono ?_
              rintro e w4 ⟨rfl, hb4⟩
              have HB4 := Lib.hid (HB3.out.trans (hb4.mono HB3.out.size))
              clear hb4
              go_wp2_with fail
              go_roundw
              case rel => exact ⟨i + 1, m + wt, by omega, by go_num, by go_num, HM2, HB4⟩
              case measure => simp [intOf]; omega
            · obtain rfl : i = n := by omega
              by_cases hbig : 4096 < m
              · have hbi : (4096 : Int) < (m : Int) := by omega
                have HF := Lib.hid (show checkOf mk sq l = 14 by rw [HC.out, HL.out, if_pos (by rw [← HM.out]; exact hbig)])
                clear hin hbig
                go_wp2_with fail
                go_ret
                rw [HF.out]; exact ⟨rfl, HB.out⟩
              · have hbi : (m : Int) ≤ 4096 := by omega
                have HF := Lib.hid (show checkOf mk sq l = 0 by rw [HC.out, HL.out, if_neg (by rw [← HM.out]; exact hbig)])
                clear hin hbig
                go_wp2_with fail
                go_ret
                rw [HF.out]; exact ⟨rfl, HB.out⟩

set_option maxRecDepth 100000 in
set_option maxHeartbeats 4000000 in
theorem rcheck_any {w : World} {mk sq : Int} {a : Option Addr} {n c : Nat} {l : List RecV} (h : RecsAt w a n c l) :
    Calls Try.prog 36 #[.agg #[.int .i64 mk, .int .i64 sq, .slice a n c]] w fun e w' => e = .returned (.int .i64 (checkOf mk sq l)) ∧ Below w.heap.size w w' := by
  obtain ⟨w1, hw1⟩ : ∃ w1, w1 = w.alloc (.cells #[.int .i64 mk, .int .i64 sq, .slice a n c] 52) := ⟨_, rfl⟩
  have hb1 : Below w.heap.size w w1 := by rw [hw1]; exact (Below.refl _ _).alloc (Nat.le_refl _) _
  have HRA := Lib.hid (h.kept hb1)
  have HB1 := Lib.hid hb1
  have hcap := h.cap
  have hcm := h.capm
  have HH := Lib.hid h
  have HL := Lib.hid h.len
  rw [hw1] at HRA HB1
  clear h hb1
  subst hw1
  by_cases h64 : 64 < n
  · have h64i : (64 : Int) < (n : Int) := by omega
    have HF := Lib.hid (show checkOf mk sq l = 14 by unfold checkOf; rw [if_pos (by rw [HL.out]; exact h64)])
    clear h64
    go_enter Try.func36, Try.ntmps36
    go_wp2_with fail
    go_ret
    rw [HF.out]; exact ⟨rfl, HB1.out⟩
  · have h64i : (n : Int) ≤ 64 := by omega
    by_cases hms : 1 ≤ mk ∧ mk ≤ 64 ∧ 1 ≤ sq ∧ sq ≤ 1099511627775
    case neg =>
      have HF := Lib.hid (show checkOf mk sq l = 4 by unfold checkOf; rw [if_neg (by rw [HL.out]; exact h64), if_pos (by simp; omega)])
      clear h64
      have hor : mk < 1 ∨ (1 ≤ mk ∧ 64 < mk) ∨ (1 ≤ mk ∧ mk ≤ 64 ∧ sq < 1) ∨ (1 ≤ mk ∧ mk ≤ 64 ∧ 1 ≤ sq ∧ 1099511627775 < sq) := by omega
      clear hms
      rcases hor with g1 | ⟨g1, g2⟩ | ⟨g1, g2, g3⟩ | ⟨g1, g2, g3, g4⟩
      all_goals
        go_enter Try.func36, Try.ntmps36
        go_wp2_with fail
        go_ret
        rw [HF.out]; exact ⟨rfl, HB1.out⟩
    case pos =>
      obtain ⟨g1, g2, g3, g4⟩ := hms
      have HC := Lib.hid (show checkOf mk sq l = (if l.length = 0 then 4 else if !(allR l l.length) then 4 else if 4096 < sumW l l.length then 14 else 0) by unfold checkOf; rw [if_neg (by rw [HL.out]; exact h64), if_neg (by simp [g1, g2, g3, g4])])
      have hn64 : n ≤ 64 := by omega
      clear h64
      by_cases hn0 : n = 0
      · subst hn0
        have HF := Lib.hid (show checkOf mk sq l = 4 by rw [HC.out, if_pos HL.out])
        go_enter Try.func36, Try.ntmps36
        go_wp2_with fail
        go_ret
        rw [HF.out]; exact ⟨rfl, HB1.out⟩
      · have hn0i : ((n : Int) == 0) = false := by rw [beq_eq_false_iff_ne]; omega
        have HC := Lib.hid (HC.out.trans (if_neg (by rw [HL.out]; exact hn0)))
        go_enter Try.func36, Try.ntmps36
        go_wp2_with fail
        go_loopw [3, 37] (fun s3 s37 wr => ∃ i m : Nat, i ≤ n ∧ s3 = .int .i64 (m : Int) ∧ s37 = .int .i64 (i : Int) ∧ Hid (allR l i = true) ∧ Hid (m = sumW l i) ∧ Hid (Below w.heap.size w wr)) (fun _ s37 _ => n - (intOf s37).toNat)
        case atStart => exact ⟨0, 0, by omega, rfl, rfl, Lib.hid rfl, Lib.hid rfl, HB1⟩
        case round =>
          obtain ⟨i, m, hi, rfl, rfl, HALL, HM, HB⟩ := hrel
          rename World => wr
          have hmle : m ≤ 312 * i := by rw [HM.out]; exact sumW_le i HALL.out
          by_cases hin : i < n
          · have hkp := HH.out.kept HB.out
            obtain ⟨b, off, rfl, hlt, hcell⟩ := hkp.cells (by omega)
            have hlab := hkp.labs _ (rec_mem (l := l) (i := i) (by have := HL.out; omega))
            have hfit := hkp.fits _ (rec_mem (l := l) (i := i) (by have := HL.out; omega))
            obtain ⟨r, hr⟩ : ∃ r, r = l.getD i rec0 := ⟨_, rfl⟩
            obtain ⟨d0, d1, d2, d3, d4, d5⟩ := RecsAt.six hcell hin hr
            have HR := Lib.hid hr
            rw [← hr] at hlab hfit
            clear hr hcell hkp
            obtain ⟨kd, tm, la, ln, lc, L, tx, v, nl⟩ := r
            simp only at d0 d1 d2 d3 d4 d5 hlab
            obtain ⟨w2, hw2⟩ : ∃ w2, w2 = wr.alloc (.cells #[.int .i64 kd, .int .i64 tm, .slice la ln lc, .string tx, .int .i64 v, .bool nl] 54) := ⟨_, rfl⟩
            have hb2 : Below wr.heap.size wr w2 := by rw [hw2]; exact (Below.refl _ _).alloc (Nat.le_refl _) _
            have HRR := Lib.hid (rrecright_any hfit (hlab.kept hb2))
            have HLB := Lib.hid (hlab.kept hb2)
            have HB3 := Lib.hid (HB.out.trans (hb2.mono HB.out.size))
            have e0 : ∀ (j : Nat) (u : Value), (#[.int .i64 kd, .int .i64 tm, .slice la ln lc, .string tx, .int .i64 v, .bool nl] : Array Value)[j]? = some u → ∀ w5, Below w2.heap.size w2 w5 → w5.cell? ⟨wr.heap.size, j, none⟩ = some u := by
              intro j u hj w5 h5
              rw [hw2] at h5
              exact box_cell h5 hj
            have HE := Lib.hid e0
            rw [hw2] at HRR HLB HB3 HE
            have HRR := Lib.hid HRR.out
            have HLB := Lib.hid HLB.out
            have HE := Lib.hid HE.out
            clear hb2 hlab hfit e0
            subst hw2
            cases hir : isRec ⟨kd, tm, la, ln, lc, L, tx, v, nl⟩ with
            | false =>
              have HF := Lib.hid (show checkOf mk sq l = 4 by
                have := allR_no (l := l) (k := i) (by rw [← HR.out]; exact hir) (n - (i + 1))
                rw [show i + 1 + (n - (i + 1)) = n from by omega] at this
                rw [HC.out, HL.out, this]; rfl)
              rw [hir] at HRR
              clear hir hn0
              go_wp2_with fail
              refine HRR.out.mono ?_
              rintro e w4 ⟨rfl, hb4⟩
              have HB4 := Lib.hid (HB3.out.trans (hb4.mono HB3.out.size))
              clear hb4
              go_wp2_with fail
              go_ret
              rw [HF.out]; exact ⟨rfl, HB4.out⟩
            | true =>
              have hwr := weight_rec hir
              have HM2 := Lib.hid (show m + weightOf ⟨kd, tm, la, ln, lc, L, tx, v, nl⟩ = sumW l (i + 1) by rw [sumW, HM.out, ← HR.out])
              have HALL2 := Lib.hid (show allR l (i + 1) = true by rw [allR, HALL.out, ← HR.out, hir]; rfl)
              have HWG := Lib.hid (fun w5 h5 => rweight_any (w := w5) hir (HLB.out.kept h5))
              obtain ⟨wt, hwt⟩ : ∃ wt, wt = weightOf ⟨kd, tm, la, ln, lc, L, tx, v, nl⟩ := ⟨_, rfl⟩
              rw [hir] at HRR
              rw [← hwt] at HM2 hwr HWG
              have HWG := Lib.hid HWG.out
              clear hir hn0 hwt
              go_wp2_with fail
              refine HRR.out.mono ?_
              rintro e w4 ⟨rfl, hb4⟩
              have HB4 := Lib.hid (HB3.out.trans (hb4.mono HB3.out.size))
              have e0 := HE.out 0 _ rfl _ hb4
              have e1 := HE.out 1 _ rfl _ hb4
              have e2 := HE.out 2 _ rfl _ hb4
              have e3 := HE.out 3 _ rfl _ hb4
              have e4 := HE.out 4 _ rfl _ hb4
              have e5 := HE.out 5 _ rfl _ hb4
              have HWG4 := Lib.hid (HWG.out _ hb4)
              clear hb4
              go_wp2_with fail
              refine HWG4.out.mono ?_
              rintro e w6 ⟨rfl, hb6⟩
              have HB6 := Lib.hid (HB4.out.trans (hb6.mono HB4.out.size))
              clear hb6
              go_wp2_with fail
              go_roundw
              case rel => exact ⟨i + 1, m + wt, by omega, by go_num, by go_num, HALL2, HM2, HB6⟩
              case measure => simp [intOf]; omega
          · obtain rfl : i = n := by omega
            have HC := Lib.hid (HC.out.trans (if_neg (by rw [HL.out, HALL.out]; simp)))
            by_cases hbig : 4096 < m
            · have hbi : (4096 : Int) < (m : Int) := by omega
              have HF := Lib.hid (show checkOf mk sq l = 14 by rw [HC.out, HL.out, if_pos (by rw [← HM.out]; exact hbig)])
              clear hin hbig hn0
              go_wp2_with fail
              go_ret
              rw [HF.out]; exact ⟨rfl, HB.out⟩
            · have hbi : (m : Int) ≤ 4096 := by omega
              have HF := Lib.hid (show checkOf mk sq l = 0 by rw [HC.out, HL.out, if_neg (by rw [← HM.out]; exact hbig)])
              clear hin hbig hn0
              go_wp2_with fail
              go_ret
              rw [HF.out]; exact ⟨rfl, HB.out⟩
end Go.Proofs.Ytjbljplgkbnpmaa
end SecRecChk2
