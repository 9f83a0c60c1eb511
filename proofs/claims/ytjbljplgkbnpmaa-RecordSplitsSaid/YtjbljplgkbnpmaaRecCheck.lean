/- May it be a batch: the program's answer and the document's, walked. Written by genreccheck.py. -/
import Derived.Test.YtjbljplgkbnpmaaRecEach
import Derived.Test.YtjbljplgkbnpmaaRecRRight
namespace Go.Proofs.Ytjbljplgkbnpmaa
open Go.RowKit LabPlain RecPlain
set_option linter.unusedVariables false

theorem allR_le {l : List RecV} {n i : Nat} (h : allR l n = true) (hi : i ≤ n) : allR l i = true := by
  induction hi with
  | refl => exact h
  | step _ ih => rw [allR, Bool.and_eq_true] at h; exact ih h.1
set_option maxRecDepth 100000 in
set_option maxHeartbeats 4000000 in
theorem check_any {w : World} {mk sq : Int} {a : Option Addr} {n c : Nat} {l : List RecV} (h : RecsAt w a n c l) :
    Calls Try.prog 35 #[.agg #[.int .i64 mk, .int .i64 sq, .slice a n c]] w fun e w' => e = .returned (.int .i64 (checkOf mk sq l)) ∧ Below w.heap.size w w' := by
  obtain ⟨w1, hw1⟩ : ∃ w1, w1 = w.alloc (.cells #[.int .i64 mk, .int .i64 sq, .slice a n c] 52) := ⟨_, rfl⟩
  have hb1 : Below w.heap.size w w1 := by rw [hw1]; exact (Below.refl _ _).alloc (Nat.le_refl _) _
  have HRA := Lib.hid (h.kept hb1)
  have HB1 := Lib.hid hb1
  have hcap := h.cap
  have hcm := h.capm
  have HH := Lib.hid h
  have HL := Lib.hid h.len
  rw [hw1] at HRA HB1
  clear h hb1
  subst hw1
  by_cases h64 : 64 < n
  · have h64i : (64 : Int) < (n : Int) := by omega
    have HF := Lib.hid (show checkOf mk sq l = 14 by unfold checkOf; rw [if_pos (by rw [HL.out]; exact h64)])
    clear h64
    go_enter Try.func35, Try.ntmps35
    go_wp2_with fail
    go_ret
    rw [HF.out]; exact ⟨rfl, HB1.out⟩
  · have h64i : (n : Int) ≤ 64 := by omega
    by_cases hms : 1 ≤ mk ∧ mk ≤ 64 ∧ 1 ≤ sq ∧ sq ≤ 1099511627775
    case neg =>
      have HF := Lib.hid (show checkOf mk sq l = 4 by unfold checkOf; rw [if_neg (by rw [HL.out]; exact h64), if_pos (by simp; omega)])
      clear h64
      cases hm : (decide (1 ≤ mk) && decide (mk ≤ 64)) with
      | false =>
        have HWM := Lib.hid (fun w => within_any mk 1 64 w)
        rw [hm] at HWM
        clear hm hms
        go_enter Try.func35, Try.ntmps35
        go_wp2_with fail
        refine (HWM.out _).mono ?_
        rintro e w2 ⟨rfl, rfl⟩
        go_wp2_with fail
        go_ret
        rw [HF.out]; exact ⟨rfl, HB1.out⟩
      | true =>
        have HWM := Lib.hid (fun w => within_any mk 1 64 w)
        rw [hm] at HWM
        have HWS := Lib.hid (fun w => within_any sq 1 1099511627775 w)
        rw [show (decide (1 ≤ sq) && decide (sq ≤ 1099511627775)) = false by simp at hm ⊢; omega] at HWS
        clear hm hms
        go_enter Try.func35, Try.ntmps35
        go_wp2_with fail
        refine (HWM.out _).mono ?_
        rintro e w2 ⟨rfl, rfl⟩
        go_wp2_with fail
        refine (HWS.out _).mono ?_
        rintro e w2 ⟨rfl, rfl⟩
        go_wp2_with fail
        go_ret
        rw [HF.out]; exact ⟨rfl, HB1.out⟩
    case pos =>
      obtain ⟨g1, g2, g3, g4⟩ := hms
      have HC := Lib.hid (show checkOf mk sq l = (if l.length = 0 then 4 else if !(allR l l.length) then 4 else if 4096 < sumW l l.length then 14 else 0) by unfold checkOf; rw [if_neg (by rw [HL.out]; exact h64), if_neg (by simp [g1, g2, g3, g4])])
      have hn64 : n ≤ 64 := by omega
      clear h64
      have HWM := Lib.hid (fun w => within_any mk 1 64 w)
      rw [show (decide (1 ≤ mk) && decide (mk ≤ 64)) = true by simp [g1, g2]] at HWM
      have HWS := Lib.hid (fun w => within_any sq 1 1099511627775 w)
      rw [show (decide (1 ≤ sq) && decide (sq ≤ 1099511627775)) = true by simp [g3, g4]] at HWS
      clear g1 g2 g3 g4
      by_cases hn0 : n = 0
      · subst hn0
        have HF := Lib.hid (show checkOf mk sq l = 4 by rw [HC.out, if_pos HL.out])
        go_enter Try.func35, Try.ntmps35
        go_wp2_with fail
        refine (HWM.out _).mono ?_
        rintro e w2 ⟨rfl, rfl⟩
        go_wp2_with fail
        refine (HWS.out _).mono ?_
        rintro e w2 ⟨rfl, rfl⟩
        go_wp2_with fail
        go_ret
        rw [HF.out]; exact ⟨rfl, HB1.out⟩
      · have hn0i : ((n : Int) == 0) = false := by rw [beq_eq_false_iff_ne]; omega
        have HC := Lib.hid (HC.out.trans (if_neg (by rw [HL.out]; exact hn0)))
        have HEA := Lib.hid (each_any HRA.out)
        cases hall : allR l n with
        | false =>
          have HF := Lib.hid (show checkOf mk sq l = 4 by rw [HC.out, if_pos (by rw [HL.out, hall]; rfl)])
          rw [hall] at HEA
          clear hall hn0
          go_enter Try.func35, Try.ntmps35
          go_wp2_with fail
          refine (HWM.out _).mono ?_
          rintro e w2 ⟨rfl, rfl⟩
          go_wp2_with fail
          refine (HWS.out _).mono ?_
          rintro e w2 ⟨rfl, rfl⟩
          go_wp2_with fail
          refine HEA.out.mono ?_
          rintro e w2 ⟨rfl, hb2⟩
          have HB2 := Lib.hid (HB1.out.trans (hb2.mono HB1.out.size))
          have c2 := box_cell hb2 (i := 2) rfl
          clear hb2
          go_wp2_with fail
          go_ret
          rw [HF.out]; exact ⟨rfl, HB2.out⟩
        | true =>
          have HC := Lib.hid (HC.out.trans (if_neg (by rw [HL.out, hall]; simp)))
          rw [hall] at HEA
          have HALL := Lib.hid hall
          clear hall hn0
          go_enter Try.func35, Try.ntmps35
          go_wp2_with fail
          refine (HWM.out _).mono ?_
          rintro e w2 ⟨rfl, rfl⟩
          go_wp2_with fail
          refine (HWS.out _).mono ?_
          rintro e w2 ⟨rfl, rfl⟩
          go_wp2_with fail
          refine HEA.out.mono ?_
          rintro e w2 ⟨rfl, hb2⟩
          have HB2 := Lib.hid (HB1.out.trans (hb2.mono HB1.out.size))
          have c2 := box_cell hb2 (i := 2) rfl
          clear hb2
          go_wp2_with fail
          go_loopw [3, 33] (fun s3 s33 wr => ∃ i m : Nat, i ≤ n ∧ s3 = .int .i64 (m : Int) ∧ s33 = .int .i64 (i : Int) ∧ Hid (m = sumW l i) ∧ Hid (Below w.heap.size w wr)) (fun _ s33 _ => n - (intOf s33).toNat)
          case atStart => exact ⟨0, 0, by omega, rfl, rfl, Lib.hid rfl, HB2⟩
          case round =>
            obtain ⟨i, m, hi, rfl, rfl, HM, HB⟩ := hrel
            rename World => wr
            have hmle : m ≤ 312 * i := by rw [HM.out]; exact sumW_le i (allR_le HALL.out hi)
            by_cases hin : i < n
            · have hkp := HH.out.kept HB.out
              obtain ⟨b, off, rfl, hlt, hcell⟩ := hkp.cells (by omega)
              have hlab := hkp.labs _ (rec_mem (l := l) (i := i) (by have := HL.out; omega))
              have hir := allR_upto HALL.out i hin
              obtain ⟨r, hr⟩ : ∃ r, r = l.getD i rec0 := ⟨_, rfl⟩
              obtain ⟨d0, d1, d2, d3, d4, d5⟩ := RecsAt.six hcell hin hr
              have hwr := weight_rec hir
              have HM2 := Lib.hid (show m + weightOf (l.getD i rec0) = sumW l (i + 1) by rw [sumW, HM.out])
              rw [← hr] at hlab hir hwr HM2
              clear hr hcell hkp
              obtain ⟨kd, tm, la, ln, lc, L, tx, v, nl⟩ := r
              simp only at d0 d1 d2 d3 d4 d5 hlab
              have HWG := Lib.hid (weight_any hir (hlab.kept ((Below.refl _ _).alloc (Nat.le_refl _) (.cells #[.int .i64 kd, .int .i64 tm, .slice la ln lc, .string tx, .int .i64 v, .bool nl] 54))))
              have HB3 := Lib.hid (HB.out.alloc HB.out.size (.cells #[.int .i64 kd, .int .i64 tm, .slice la ln lc, .string tx, .int .i64 v, .bool nl] 54))
              obtain ⟨wt, hwt⟩ : ∃ wt, wt = weightOf ⟨kd, tm, la, ln, lc, L, tx, v, nl⟩ := ⟨_, rfl⟩
              rw [← hwt] at HWG HM2 hwr
              clear hwt hlab hir
              go_wp2_with fail
              refine HWG.out.mono ?_
              rintro e w4 ⟨rfl, hb4⟩
              have HB4 := Lib.hid (HB3.out.trans (hb4.mono HB3.out.size))
              clear hb4
              go_wp2_with fail
              go_roundw
              case rel => exact ⟨i + 1, m + wt, by omega, by go_num, by go_num, HM2, HB4⟩
              case measure => simp [intOf]; omega
            · obtain rfl : i = n := by omega
              by_cases hbig : 4096 < m
              · have hbi : (4096 : Int) < (m : Int) := by omega
                have HF := Lib.hid (show checkOf mk sq l = 14 by rw [HC.out, HL.out, if_pos (by rw [← HM.out]; exact hbig)])
                clear hin hbig
                go_wp2_with fail
                go_ret
                rw [HF.out]; exact ⟨rfl, HB.out⟩
              · have hbi : (m : Int) ≤ 4096 := by omega
                have HF := Lib.hid (show checkOf mk sq l = 0 by rw [HC.out, HL.out, if_neg (by rw [← HM.out]; exact hbig)])
                clear hin hbig
                go_wp2_with fail
                go_ret
                rw [HF.out]; exact ⟨rfl, HB.out⟩

set_option maxRecDepth 100000 in
set_option maxHeartbeats 4000000 in
theorem rcheck_any {w : World} {mk sq : Int} {a : Option Addr} {n c : Nat} {l : List RecV} (h : RecsAt w a n c l) :
    Calls Try.prog 36 #[.agg #[.int .i64 mk, .int .i64 sq, .slice a n c]] w fun e w' => e = .returned (.int .i64 (checkOf mk sq l)) ∧ Below w.heap.size w w' := by
  obtain ⟨w1, hw1⟩ : ∃ w1, w1 = w.alloc (.cells #[.int .i64 mk, .int .i64 sq, .slice a n c] 52) := ⟨_, rfl⟩
  have hb1 : Below w.heap.size w w1 := by rw [hw1]; exact (Below.refl _ _).alloc (Nat.le_refl _) _
  have HRA := Lib.hid (h.kept hb1)
  have HB1 := Lib.hid hb1
  have hcap := h.cap
  have hcm := h.capm
  have HH := Lib.hid h
  have HL := Lib.hid h.len
  rw [hw1] at HRA HB1
  clear h hb1
  subst hw1
  by_cases h64 : 64 < n
  · have h64i : (64 : Int) < (n : Int) := by omega
    have HF := Lib.hid (show checkOf mk sq l = 14 by unfold checkOf; rw [if_pos (by rw [HL.out]; exact h64)])
    clear h64
    go_enter Try.func36, Try.ntmps36
    go_wp2_with fail
    go_ret
    rw [HF.out]; exact ⟨rfl, HB1.out⟩
  · have h64i : (n : Int) ≤ 64 := by omega
    by_cases hms : 1 ≤ mk ∧ mk ≤ 64 ∧ 1 ≤ sq ∧ sq ≤ 1099511627775
    case neg =>
      have HF := Lib.hid (show checkOf mk sq l = 4 by unfold checkOf; rw [if_neg (by rw [HL.out]; exact h64), if_pos (by simp; omega)])
      clear h64
      have hor : mk < 1 ∨ (1 ≤ mk ∧ 64 < mk) ∨ (1 ≤ mk ∧ mk ≤ 64 ∧ sq < 1) ∨ (1 ≤ mk ∧ mk ≤ 64 ∧ 1 ≤ sq ∧ 1099511627775 < sq) := by omega
      clear hms
      rcases hor with g1 | ⟨g1, g2⟩ | ⟨g1, g2, g3⟩ | ⟨g1, g2, g3, g4⟩
      all_goals
        go_enter Try.func36, Try.ntmps36
        go_wp2_with fail
        go_ret
        rw [HF.out]; exact ⟨rfl, HB1.out⟩
    case pos =>
      obtain ⟨g1, g2, g3, g4⟩ := hms
      have HC := Lib.hid (show checkOf mk sq l = (if l.length = 0 then 4 else if !(allR l l.length) then 4 else if 4096 < sumW l l.length then 14 else 0) by unfold checkOf; rw [if_neg (by rw [HL.out]; exact h64), if_neg (by simp [g1, g2, g3, g4])])
      have hn64 : n ≤ 64 := by omega
      clear h64
      by_cases hn0 : n = 0
      · subst hn0
        have HF := Lib.hid (show checkOf mk sq l = 4 by rw [HC.out, if_pos HL.out])
        go_enter Try.func36, Try.ntmps36
        go_wp2_with fail
        go_ret
        rw [HF.out]; exact ⟨rfl, HB1.out⟩
      · have hn0i : ((n : Int) == 0) = false := by rw [beq_eq_false_iff_ne]; omega
        have HC := Lib.hid (HC.out.trans (if_neg (by rw [HL.out]; exact hn0)))
        go_enter Try.func36, Try.ntmps36
        go_wp2_with fail
        go_loopw [3, 37] (fun s3 s37 wr => ∃ i m : Nat, i ≤ n ∧ s3 = .int .i64 (m : Int) ∧ s37 = .int .i64 (i : Int) ∧ Hid (allR l i = true) ∧ Hid (m = sumW l i) ∧ Hid (Below w.heap.size w wr)) (fun _ s37 _ => n - (intOf s37).toNat)
        case atStart => exact ⟨0, 0, by omega, rfl, rfl, Lib.hid rfl, Lib.hid rfl, HB1⟩
        case round =>
          obtain ⟨i, m, hi, rfl, rfl, HALL, HM, HB⟩ := hrel
          rename World => wr
          have hmle : m ≤ 312 * i := by rw [HM.out]; exact sumW_le i HALL.out
          by_cases hin : i < n
          · have hkp := HH.out.kept HB.out
            obtain ⟨b, off, rfl, hlt, hcell⟩ := hkp.cells (by omega)
            have hlab := hkp.labs _ (rec_mem (l := l) (i := i) (by have := HL.out; omega))
            have hfit := hkp.fits _ (rec_mem (l := l) (i := i) (by have := HL.out; omega))
            obtain ⟨r, hr⟩ : ∃ r, r = l.getD i rec0 := ⟨_, rfl⟩
            obtain ⟨d0, d1, d2, d3, d4, d5⟩ := RecsAt.six hcell hin hr
            have HR := Lib.hid hr
            rw [← hr] at hlab hfit
            clear hr hcell hkp
            obtain ⟨kd, tm, la, ln, lc, L, tx, v, nl⟩ := r
            simp only at d0 d1 d2 d3 d4 d5 hlab
            obtain ⟨w2, hw2⟩ : ∃ w2, w2 = wr.alloc (.cells #[.int .i64 kd, .int .i64 tm, .slice la ln lc, .string tx, .int .i64 v, .bool nl] 54) := ⟨_, rfl⟩
            have hb2 : Below wr.heap.size wr w2 := by rw [hw2]; exact (Below.refl _ _).alloc (Nat.le_refl _) _
            have HRR := Lib.hid (rrecright_any hfit (hlab.kept hb2))
            have HLB := Lib.hid (hlab.kept hb2)
            have HB3 := Lib.hid (HB.out.trans (hb2.mono HB.out.size))
            have e0 : ∀ (j : Nat) (u : Value), (#[.int .i64 kd, .int .i64 tm, .slice la ln lc, .string tx, .int .i64 v, .bool nl] : Array Value)[j]? = some u → ∀ w5, Below w2.heap.size w2 w5 → w5.cell? ⟨wr.heap.size, j, none⟩ = some u := by
              intro j u hj w5 h5
              rw [hw2] at h5
              exact box_cell h5 hj
            have HE := Lib.hid e0
            rw [hw2] at HRR HLB HB3 HE
            have HRR := Lib.hid HRR.out
            have HLB := Lib.hid HLB.out
            have HE := Lib.hid HE.out
            clear hb2 hlab hfit e0
            subst hw2
            cases hir : isRec ⟨kd, tm, la, ln, lc, L, tx, v, nl⟩ with
            | false =>
              have HF := Lib.hid (show checkOf mk sq l = 4 by
                have := allR_no (l := l) (k := i) (by rw [← HR.out]; exact hir) (n - (i + 1))
                rw [show i + 1 + (n - (i + 1)) = n from by omega] at this
                rw [HC.out, HL.out, this]; rfl)
              rw [hir] at HRR
              clear hir hn0
              go_wp2_with fail
              refine HRR.out.mono ?_
              rintro e w4 ⟨rfl, hb4⟩
              have HB4 := Lib.hid (HB3.out.trans (hb4.mono HB3.out.size))
              clear hb4
              go_wp2_with fail
              go_ret
              rw [HF.out]; exact ⟨rfl, HB4.out⟩
            | true =>
              have hwr := weight_rec hir
              have HM2 := Lib.hid (show m + weightOf ⟨kd, tm, la, ln, lc, L, tx, v, nl⟩ = sumW l (i + 1) by rw [sumW, HM.out, ← HR.out])
              have HALL2 := Lib.hid (show allR l (i + 1) = true by rw [allR, HALL.out, ← HR.out, hir]; rfl)
              have HWG := Lib.hid (fun w5 h5 => rweight_any (w := w5) hir (HLB.out.kept h5))
              obtain ⟨wt, hwt⟩ : ∃ wt, wt = weightOf ⟨kd, tm, la, ln, lc, L, tx, v, nl⟩ := ⟨_, rfl⟩
              rw [hir] at HRR
              rw [← hwt] at HM2 hwr HWG
              have HWG := Lib.hid HWG.out
              clear hir hn0 hwt
              go_wp2_with fail
              refine HRR.out.mono ?_
              rintro e w4 ⟨rfl, hb4⟩
              have HB4 := Lib.hid (HB3.out.trans (hb4.mono HB3.out.size))
              have e0 := HE.out 0 _ rfl _ hb4
              have e1 := HE.out 1 _ rfl _ hb4
              have e2 := HE.out 2 _ rfl _ hb4
              have e3 := HE.out 3 _ rfl _ hb4
              have e4 := HE.out 4 _ rfl _ hb4
              have e5 := HE.out 5 _ rfl _ hb4
              have HWG4 := Lib.hid (HWG.out _ hb4)
              clear hb4
              go_wp2_with fail
              refine HWG4.out.mono ?_
              rintro e w6 ⟨rfl, hb6⟩
              have HB6 := Lib.hid (HB4.out.trans (hb6.mono HB4.out.size))
              clear hb6
              go_wp2_with fail
              go_roundw
              case rel => exact ⟨i + 1, m + wt, by omega, by go_num, by go_num, HALL2, HM2, HB6⟩
              case measure => simp [intOf]; omega
          · obtain rfl : i = n := by omega
            have HC := Lib.hid (HC.out.trans (if_neg (by rw [HL.out, HALL.out]; simp)))
            by_cases hbig : 4096 < m
            · have hbi : (4096 : Int) < (m : Int) := by omega
              have HF := Lib.hid (show checkOf mk sq l = 14 by rw [HC.out, HL.out, if_pos (by rw [← HM.out]; exact hbig)])
              clear hin hbig hn0
              go_wp2_with fail
              go_ret
              rw [HF.out]; exact ⟨rfl, HB.out⟩
            · have hbi : (m : Int) ≤ 4096 := by omega
              have HF := Lib.hid (show checkOf mk sq l = 0 by rw [HC.out, HL.out, if_neg (by rw [← HM.out]; exact hbig)])
              clear hin hbig hn0
              go_wp2_with fail
              go_ret
              rw [HF.out]; exact ⟨rfl, HB.out⟩
end Go.Proofs.Ytjbljplgkbnpmaa
