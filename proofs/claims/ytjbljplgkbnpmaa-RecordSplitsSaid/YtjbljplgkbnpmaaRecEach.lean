/- Do all records hold: record.each with its function value, walked. -/
import Derived.Test.YtjbljplgkbnpmaaRecWeight
namespace Go.Proofs.Ytjbljplgkbnpmaa
open Go.RowKit LabPlain RecPlain
set_option linter.unusedVariables false

set_option maxRecDepth 100000 in
set_option maxHeartbeats 2000000 in
theorem clo_any {w : World} {k t : Int} {la : Option Addr} {ln lc : Nat} {L : List Lab} {tx : ByteArray} {v : Int} {nl : Bool} (hf : RecV.fits ⟨k, t, la, ln, lc, L, tx, v, nl⟩) (h : LabsAt w la ln lc L) {B : Nat} (hB : B < w.heap.size) (hc : w.cell? ⟨B, 0, none⟩ = some (.func (.func 33) #[] #[])) :
    Calls Try.prog 99 #[.agg #[.int .i64 k, .int .i64 t, .slice la ln lc, .string tx, .int .i64 v, .bool nl], .pointer (some ⟨B, 0, none⟩)] w fun e w' => e = .returned (.bool (!isRec ⟨k, t, la, ln, lc, L, tx, v, nl⟩)) ∧ Below w.heap.size w w' := by
  obtain ⟨w1, hw1⟩ : ∃ w1, w1 = w.alloc (.cells #[.int .i64 k, .int .i64 t, .slice la ln lc, .string tx, .int .i64 v, .bool nl] 54) := ⟨_, rfl⟩
  have hb1 : Below w.heap.size w w1 := by rw [hw1]; exact (Below.refl _ _).alloc (Nat.le_refl _) _
  have HR := Lib.hid (recright_any hf (h.kept hb1))
  have c1 := (hb1.cell (p := ⟨B, 0, none⟩) hB).trans hc
  have HB1 := Lib.hid hb1
  rw [hw1] at HR HB1 c1
  have HR := Lib.hid HR.out
  clear h hb1 hf hc
  subst hw1
  go_enter Try.func99, Try.ntmps99
  go_wp2_with fail
  refine HR.out.mono ?_
  rintro e w2 ⟨rfl, hb2⟩
  have HB2 := Lib.hid (HB1.out.trans (hb2.mono HB1.out.size))
  clear hb2
  go_wp2_with fail
  go_ret
  exact ⟨rfl, HB2.out⟩

set_option maxRecDepth 100000 in
set_option maxHeartbeats 2000000 in
theorem index_any {w : World} {a : Option Addr} {n c : Nat} {l : List RecV} (h : RecsAt w a n c l) {B : Nat} (hB : B < w.heap.size) (hc : w.cell? ⟨B, 0, none⟩ = some (.func (.func 33) #[] #[])) :
    Calls Try.prog 110 #[.slice a n c, .func (.func 99) #[] #[.pointer (some ⟨B, 0, none⟩)]] w fun e w' => (∃ z : Int, e = .returned (.int .i64 z) ∧ (decide (0 ≤ z)) = !allR l n) ∧ Below w.heap.size w w' := by
  have hlen := h.len
  have hcap := h.cap
  have hcm := h.capm
  have HH := Lib.hid h
  have HL := Lib.hid hlen
  have HC := Lib.hid hc
  clear h hlen hc
  go_enter Try.func110, Try.ntmps110
  go_wp2_with fail
  go_loopw [8] (fun s8 wr => ∃ k : Nat, k ≤ n ∧ s8 = .int .i64 (k : Int) ∧ Hid (allR l k = true) ∧ Hid (Below w.heap.size w wr)) (fun s8 _ => n - (intOf s8).toNat)
  case atStart => exact ⟨0, by omega, rfl, Lib.hid rfl, Lib.hid (Below.refl _ _)⟩
  case round =>
    obtain ⟨k, hk, rfl, HU, HB⟩ := hrel
    rename World => wr
    by_cases hkn : k < n
    · have hkp := HH.out.kept HB.out
      obtain ⟨b, off, rfl, hlt, hcell⟩ := hkp.cells (by omega)
      have hfit := hkp.fits _ (rec_mem (l := l) (i := k) (by have := HL.out; omega))
      have hlab := hkp.labs _ (rec_mem (l := l) (i := k) (by have := HL.out; omega))
      obtain ⟨r, hr⟩ : ∃ r, r = l.getD k rec0 := ⟨_, rfl⟩
      obtain ⟨c0, c1, c2, c3, c4, c5⟩ := RecsAt.six hcell hkn hr
      rw [← hr] at hfit hlab
      have HR := Lib.hid hr
      clear hr hcell hkp
      obtain ⟨kd, tm, la, ln, lc, L, tx, v, nl⟩ := r
      have cf : wr.cell? ⟨B, 0, none⟩ = some (.func (.func 33) #[] #[]) := (HB.out.cell (p := ⟨B, 0, none⟩) hB).trans HC.out
      simp only at c0 c1 c2 c3 c4 c5 hlab
      have HFIT := Lib.hid hfit
      have HLAB := Lib.hid hlab
      clear hfit hlab
      have HCL := Lib.hid (clo_any HFIT.out HLAB.out (Nat.lt_of_lt_of_le hB HB.out.size) cf)
      cases hir : isRec ⟨kd, tm, la, ln, lc, L, tx, v, nl⟩ with
      | true =>
        have HU2 := Lib.hid (show allR l (k + 1) = true by rw [allR, HU.out, ← HR.out, hir]; rfl)
        rw [hir] at HCL
        clear hir
        go_wp2_with fail
        refine HCL.out.mono ?_
        rintro e w2 ⟨rfl, hb2⟩
        have HB2 := Lib.hid (HB.out.trans (hb2.mono HB.out.size))
        clear hb2
        go_wp2_with fail
        go_roundw
        case rel => exact ⟨k + 1, by omega, by go_num, HU2, HB2⟩
        case measure => simp [intOf]; omega
      | false =>
        have HF := Lib.hid (show allR l n = false by
          have := allR_no (l := l) (k := k) (by rw [← HR.out]; exact hir) (n - (k + 1))
          rw [show k + 1 + (n - (k + 1)) = n from by omega] at this
          exact this)
        rw [hir] at HCL
        clear hir
        go_wp2_with fail
        refine HCL.out.mono ?_
        rintro e w2 ⟨rfl, hb2⟩
        have HB2 := Lib.hid (HB.out.trans (hb2.mono HB.out.size))
        clear hb2
        go_wp2_with fail
        go_ret
        exact ⟨⟨_, rfl, by rw [HF.out]; simp⟩, HB2.out⟩
    · obtain rfl : k = n := by omega
      have HT := Lib.hid HU.out
      clear hkn
      go_wp2_with fail
      go_ret
      exact ⟨⟨_, rfl, by rw [HT.out]; rfl⟩, HB.out⟩

set_option maxRecDepth 100000 in
set_option maxHeartbeats 2000000 in
theorem contains_any {w : World} {a : Option Addr} {n c : Nat} {l : List RecV} (h : RecsAt w a n c l) {B : Nat} (hB : B < w.heap.size) (hc : w.cell? ⟨B, 0, none⟩ = some (.func (.func 33) #[] #[])) :
    Calls Try.prog 98 #[.slice a n c, .func (.func 99) #[] #[.pointer (some ⟨B, 0, none⟩)]] w fun e w' => e = .returned (.bool (!allR l n)) ∧ Below w.heap.size w w' := by
  have HI := Lib.hid (index_any h hB hc)
  clear h hc
  go_enter Try.func98, Try.ntmps98
  go_wp2_with fail
  refine HI.out.mono ?_
  rintro e w2 ⟨⟨z, rfl, hz⟩, hb2⟩
  have HZ := Lib.hid hz
  have HB2 := Lib.hid hb2
  clear hb2 hz
  go_wp2_with fail
  go_ret
  exact ⟨by rw [← HZ.out]; rfl, HB2.out⟩

set_option maxRecDepth 100000 in
set_option maxHeartbeats 2000000 in
theorem each_any {w : World} {a : Option Addr} {n c : Nat} {l : List RecV} (h : RecsAt w a n c l) :
    Calls Try.prog 74 #[.slice a n c, .func (.func 33) #[] #[]] w fun e w' => e = .returned (.bool (allR l n)) ∧ Below w.heap.size w w' := by
  obtain ⟨w1, hw1⟩ : ∃ w1, w1 = w.alloc (.cells #[.func (.func 33) #[] #[]] 55) := ⟨_, rfl⟩
  have hb1 : Below w.heap.size w w1 := by rw [hw1]; exact (Below.refl _ _).alloc (Nat.le_refl _) _
  have hlt : w.heap.size < w1.heap.size := by rw [hw1]; exact (Array.getElem?_eq_some_iff.1 (heap_alloc_new w _)).1
  have hcell : w1.cell? ⟨w.heap.size, 0, none⟩ = some (.func (.func 33) #[] #[]) := by rw [hw1]; exact box_cell (Below.refl _ _) rfl
  have HI := Lib.hid (contains_any (h.kept hb1) hlt hcell)
  have HB1 := Lib.hid hb1
  rw [hw1] at HI HB1
  have HI := Lib.hid HI.out
  clear h hb1 hlt hcell
  subst hw1
  go_enter Try.func74, Try.ntmps74
  go_wp2_with fail
  refine HI.out.mono ?_
  rintro e w2 ⟨rfl, hb2⟩
  have HB2 := Lib.hid (HB1.out.trans (hb2.mono HB1.out.size))
  clear hb2
  go_wp2_with fail
  go_ret
  exact ⟨by simp, HB2.out⟩
end Go.Proofs.Ytjbljplgkbnpmaa
