/- The law RecordChecks, walked. -/
import Derived.Test.YtaolljfpmbmfpaaRecLives
namespace Go.Proofs.Ytaolljfpmbmfpaa
open Go.RowKit LabPlain RecPlain
set_option linter.unusedVariables false

theorem rec_box (w : World) {kd tm : Int} {la : Option Addr} {ln lc : Nat} {tx : ByteArray} {v : Int} {nl : Bool} (t : TypeId) :
    (w.alloc (.cells #[.int .i64 kd, .int .i64 tm, .slice la ln lc, .string tx, .int .i64 v, .bool nl] t)).cell? ⟨w.heap.size, 0, none⟩ = some (.int .i64 kd) ∧
    (w.alloc (.cells #[.int .i64 kd, .int .i64 tm, .slice la ln lc, .string tx, .int .i64 v, .bool nl] t)).cell? ⟨w.heap.size, 1, none⟩ = some (.int .i64 tm) ∧
    (w.alloc (.cells #[.int .i64 kd, .int .i64 tm, .slice la ln lc, .string tx, .int .i64 v, .bool nl] t)).cell? ⟨w.heap.size, 2, none⟩ = some (.slice la ln lc) ∧
    (w.alloc (.cells #[.int .i64 kd, .int .i64 tm, .slice la ln lc, .string tx, .int .i64 v, .bool nl] t)).cell? ⟨w.heap.size, 3, none⟩ = some (.string tx) ∧
    (w.alloc (.cells #[.int .i64 kd, .int .i64 tm, .slice la ln lc, .string tx, .int .i64 v, .bool nl] t)).cell? ⟨w.heap.size, 4, none⟩ = some (.int .i64 v) ∧
    (w.alloc (.cells #[.int .i64 kd, .int .i64 tm, .slice la ln lc, .string tx, .int .i64 v, .bool nl] t)).cell? ⟨w.heap.size, 5, none⟩ = some (.bool nl) :=
  ⟨box_cell (Below.refl _ _) rfl, box_cell (Below.refl _ _) rfl, box_cell (Below.refl _ _) rfl, box_cell (Below.refl _ _) rfl, box_cell (Below.refl _ _) rfl, box_cell (Below.refl _ _) rfl⟩

set_option maxRecDepth 100000 in
set_option maxHeartbeats 4000000 in
theorem record_checks (mk sq : Int) (a : Option Addr) (n c : Nat) (l : List RecV) (w : World) (hmk : -9223372036854775808 ≤ mk ∧ mk ≤ 9223372036854775807) (hsq : -9223372036854775808 ≤ sq ∧ sq ≤ 9223372036854775807) (h : RecsAt w a n c l) :
    Calls Try.prog 3 #[.agg #[.int .i64 mk, .int .i64 sq, .slice a n c]] w fun e w' => e = .returned (.bool true) ∧ Below w.heap.size w w' := by
  obtain ⟨w1, hw1⟩ : ∃ w1, w1 = w.alloc (.cells #[.int .i64 mk, .int .i64 sq, .slice a n c] 24) := ⟨_, rfl⟩
  have s1 : w.heap.size < w1.heap.size := by rw [hw1]; exact (Array.getElem?_eq_some_iff.1 (heap_alloc_new w _)).1
  have hb1 : Below w.heap.size w w1 := by rw [hw1]; exact (Below.refl _ _).alloc (Nat.le_refl _) _
  have hbox : ∀ (wr : World), Below w1.heap.size w1 wr → wr.cell? ⟨w.heap.size, 0, none⟩ = some (.int .i64 mk) ∧ wr.cell? ⟨w.heap.size, 1, none⟩ = some (.int .i64 sq) ∧ wr.cell? ⟨w.heap.size, 2, none⟩ = some (.slice a n c) := by
    intro wr hb
    rw [hw1] at hb
    exact ⟨box_cell hb rfl, box_cell hb rfl, box_cell hb rfl⟩
  have hcap := h.cap
  have hcm := h.capm
  have HH := Lib.hid (h.kept hb1)
  have HL := Lib.hid h.len
  have HBOX := Lib.hid hbox
  have HB1 := Lib.hid hb1
  have HW1 := Lib.hid hw1
  have HS1 := Lib.hid s1
  clear h hb1 hbox hw1 s1 hmk hsq
  by_cases h70 : 70 < n
  · have h70i : (70 : Int) < (n : Int) := by omega
    clear h70
    go_enter Try.func3, Try.ntmps3
    go_wp2_with fail
    rw [← HW1.out]
    refine (lives9_any w1).mono ?_
    rintro e w2 ⟨rfl, hb2⟩
    obtain ⟨b0, b1, b2⟩ := HBOX.out w2 hb2
    have HB2 := Lib.hid hb2
    clear hb2
    go_wp2_with fail
    refine (lives9_any w2).mono ?_
    rintro e w3 ⟨rfl, hb3⟩
    have HB3 := Lib.hid ((HB1.out.trans (HB2.out.mono HB1.out.size)).trans (hb3.mono (Nat.le_trans HB1.out.size HB2.out.size)))
    clear hb3
    go_wp2_with fail
    go_ret
    exact ⟨rfl, HB3.out⟩
  · have h70i : (n : Int) ≤ 70 := by omega
    clear h70
    go_enter Try.func3, Try.ntmps3
    go_wp2_with fail
    rw [← HW1.out]
    refine (lives9_any w1).mono ?_
    rintro e w2 ⟨rfl, hb2⟩
    obtain ⟨b0, b1, b2⟩ := HBOX.out w2 hb2
    have HB2 := Lib.hid hb2
    clear hb2
    go_wp2_with fail
    go_loopw [17] (fun s17 wr => ∃ k : Nat, k ≤ n ∧ s17 = .int .i64 (k : Int) ∧ Hid (Below w1.heap.size w1 wr)) (fun s17 _ => n - (intOf s17).toNat)
    case atStart => exact ⟨0, by omega, rfl, HB2⟩
    case round =>
      clear b0 b1 b2
      obtain ⟨k, hk, rfl, HB⟩ := hrel
      rename World => wr
      by_cases hkn : k < n
      · have hkp := HH.out.kept HB.out
        obtain ⟨b, off, rfl, hlt, hcell⟩ := hkp.cells (by omega)
        have hlab := hkp.labs _ (rec_mem (l := l) (i := k) (by have := HL.out; omega))
        have hfit := hkp.fits _ (rec_mem (l := l) (i := k) (by have := HL.out; omega))
        obtain ⟨r, hr⟩ : ∃ r, r = l.getD k rec0 := ⟨_, rfl⟩
        obtain ⟨d0, d1, d2, d3, d4, d5⟩ := RecsAt.six hcell hkn hr
        rw [← hr] at hlab hfit
        clear hr hcell hkp
        obtain ⟨kd, tm, la, ln, lc, L, tx, v, nl⟩ := r
        simp only at d0 d1 d2 d3 d4 d5 hlab
        obtain ⟨w3, hw3⟩ : ∃ w3, w3 = wr.alloc (.cells #[.int .i64 kd, .int .i64 tm, .slice la ln lc, .string tx, .int .i64 v, .bool nl] 28) := ⟨_, rfl⟩
        obtain ⟨pb, hpb⟩ : ∃ pb, pb = wr.heap.size := ⟨_, rfl⟩
        have hlt3 : pb < w3.heap.size := by rw [hw3, hpb]; exact (Array.getElem?_eq_some_iff.1 (heap_alloc_new wr _)).1
        have hcs := rec_box wr (kd := kd) (tm := tm) (la := la) (ln := ln) (lc := lc) (tx := tx) (v := v) (nl := nl) 28
        have hb3 : Below wr.heap.size wr w3 := by rw [hw3]; exact (Below.refl _ _).alloc (Nat.le_refl _) _
        rw [← hw3, ← hpb] at hcs
        obtain ⟨e0, e1, e2, e3, e4, e5⟩ := hcs
        have HW3 := Lib.hid hw3
        have HPB := Lib.hid hpb
        have HB3 := Lib.hid (HB.out.trans (hb3.mono HB.out.size))
        have HLB := Lib.hid (hlab.kept hb3)
        have HFIT := Lib.hid hfit
        clear hpb hw3 hb3 hlab hfit
        go_wp2_with fail
        rw [← HW3.out, ← HPB.out]
        go_region_held3 (fun w' => w'.cell? ⟨pb, 0, none⟩ = some (.int .i64 kd) ∧ w'.cell? ⟨pb, 1, none⟩ = some (.int .i64 tm) ∧ w'.cell? ⟨pb, 2, none⟩ = some (.slice la ln lc) ∧ w'.cell? ⟨pb, 3, none⟩ = some (.string tx) ∧ w'.cell? ⟨pb, 4, none⟩ = some (.int .i64 v) ∧ w'.cell? ⟨pb, 5, none⟩ = some (.bool nl)) (first | exact ⟨(hba.cell (p := ⟨pb, 0, none⟩) hlt3).trans e0, (hba.cell (p := ⟨pb, 1, none⟩) hlt3).trans e1, (hba.cell (p := ⟨pb, 2, none⟩) hlt3).trans e2, (hba.cell (p := ⟨pb, 3, none⟩) hlt3).trans e3, (hba.cell (p := ⟨pb, 4, none⟩) hlt3).trans e4, (hba.cell (p := ⟨pb, 5, none⟩) hlt3).trans e5⟩ | exact ⟨(hbr.cell (p := ⟨pb, 0, none⟩) (Nat.lt_of_lt_of_le hlt3 hba.size)).trans ((hba.cell (p := ⟨pb, 0, none⟩) hlt3).trans e0), (hbr.cell (p := ⟨pb, 1, none⟩) (Nat.lt_of_lt_of_le hlt3 hba.size)).trans ((hba.cell (p := ⟨pb, 1, none⟩) hlt3).trans e1), (hbr.cell (p := ⟨pb, 2, none⟩) (Nat.lt_of_lt_of_le hlt3 hba.size)).trans ((hba.cell (p := ⟨pb, 2, none⟩) hlt3).trans e2), (hbr.cell (p := ⟨pb, 3, none⟩) (Nat.lt_of_lt_of_le hlt3 hba.size)).trans ((hba.cell (p := ⟨pb, 3, none⟩) hlt3).trans e3), (hbr.cell (p := ⟨pb, 4, none⟩) (Nat.lt_of_lt_of_le hlt3 hba.size)).trans ((hba.cell (p := ⟨pb, 4, none⟩) hlt3).trans e4), (hbr.cell (p := ⟨pb, 5, none⟩) (Nat.lt_of_lt_of_le hlt3 hba.size)).trans ((hba.cell (p := ⟨pb, 5, none⟩) hlt3).trans e5)⟩ | go_keep) (first | (go_at_call 10; refine (recright_any HFIT.out (HLB.out.kept (Below.refl _ _).drew)).mono ?_; rintro r w4 ⟨rfl, hba⟩) | (go_at_call 11; refine (rrecright_any HFIT.out (HLB.out.kept ((Below.refl _ _).drew.trans hba))).mono ?_; rintro r w5 ⟨rfl, hbr⟩))
        have HB5 := Lib.hid ((HB3.out.drew.trans (hba.mono HB3.out.size)).trans (hbr.mono (Nat.le_trans HB3.out.size hba.size)))
        clear hba hbr
        go_wp2_with fail
        go_roundw
        case rel => exact ⟨k + 1, by omega, by go_num, HB5⟩
        case measure => simp [intOf]; omega
      · obtain rfl : k = n := by omega
        clear hkn
        obtain ⟨b0, b1, b2⟩ := HBOX.out wr HB.out
        have hltb := Nat.lt_of_lt_of_le HS1.out HB.out.size
        have HLR := Lib.hid (HH.out.kept HB.out)
        go_wp2_with fail
        go_region_held3 (fun w' => w'.cell? ⟨w.heap.size, 0, none⟩ = some (.int .i64 mk) ∧ w'.cell? ⟨w.heap.size, 1, none⟩ = some (.int .i64 sq) ∧ w'.cell? ⟨w.heap.size, 2, none⟩ = some (.slice a k c)) (first | exact ⟨(hba.cell (p := ⟨w.heap.size, 0, none⟩) hltb).trans b0, (hba.cell (p := ⟨w.heap.size, 1, none⟩) hltb).trans b1, (hba.cell (p := ⟨w.heap.size, 2, none⟩) hltb).trans b2⟩ | exact ⟨(hbr.cell (p := ⟨w.heap.size, 0, none⟩) (Nat.lt_of_lt_of_le hltb hba.size)).trans ((hba.cell (p := ⟨w.heap.size, 0, none⟩) hltb).trans b0), (hbr.cell (p := ⟨w.heap.size, 1, none⟩) (Nat.lt_of_lt_of_le hltb hba.size)).trans ((hba.cell (p := ⟨w.heap.size, 1, none⟩) hltb).trans b1), (hbr.cell (p := ⟨w.heap.size, 2, none⟩) (Nat.lt_of_lt_of_le hltb hba.size)).trans ((hba.cell (p := ⟨w.heap.size, 2, none⟩) hltb).trans b2)⟩ | go_keep) (first | (go_at_call 12; refine (check_any (HLR.out.kept (Below.refl _ _).drew)).mono ?_; rintro r w4 ⟨rfl, hba⟩) | (go_at_call 13; refine (rcheck_any (HLR.out.kept ((Below.refl _ _).drew.trans hba))).mono ?_; rintro r w5 ⟨rfl, hbr⟩))
        have HB5 := Lib.hid (HB1.out.trans (((HB.out.drew.trans (hba.mono HB.out.size)).trans (hbr.mono (Nat.le_trans HB.out.size hba.size))).mono HB1.out.size))
        clear hba hbr
        go_wp2_with fail
        go_ret
        exact ⟨by simp, HB5.out⟩
end Go.Proofs.Ytaolljfpmbmfpaa
