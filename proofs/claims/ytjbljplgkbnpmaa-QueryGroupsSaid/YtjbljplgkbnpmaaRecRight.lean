/- May it be a record: the program's answer and the document's, walked. -/
import Derived.Test.YtjbljplgkbnpmaaRecAt
import Derived.Test.YtjbljplgkbnpmaaLabRef
namespace Go.Proofs.Ytjbljplgkbnpmaa
open Go.RowKit LabPlain RecPlain
set_option linter.unusedVariables false

set_option maxHeartbeats 400000 in
theorem within_any (n a b : Int) (w : World) :
    Calls Try.prog 73 #[.int .i64 n, .int .i64 a, .int .i64 b] w fun e w' => e = .returned (.bool (decide (a ≤ n) && decide (n ≤ b))) ∧ w = w' := by
  cases h1 : decide (a ≤ n) with
  | true =>
    have h1i : a ≤ n := of_decide_eq_true h1
    clear h1
    go_enter Try.func73, Try.ntmps73
    go_wp2_with fail
    go_ret
    exact ⟨by simp, rfl⟩
  | false =>
    have h1i : n < a := by have := of_decide_eq_false h1; omega
    clear h1
    go_enter Try.func73, Try.ntmps73
    go_wp2_with fail
    go_ret
    exact ⟨by simp, rfl⟩

theorem toList_empty : ByteArray.empty.toList = [] := by simp
theorem toList_nil {s : ByteArray} (h : s.size = 0) : s.toList = [] := by
  obtain rfl : s = ByteArray.empty := by simpa using h
  exact toList_empty
theorem size_nil {s : ByteArray} (h : s.toList = []) : s.size = 0 := by
  have : s = ByteArray.empty := toList_inj (h.trans toList_empty.symm)
  rw [this]; rfl
/-- what was boxed, behind a call that leaves old memory alone -/
theorem box_cell {w w2 : World} {cs : Array Value} {t : TypeId} (hb : Below (w.alloc (.cells cs t)).heap.size (w.alloc (.cells cs t)) w2) {i : Nat} {v : Value} (h : cs[i]? = some v) : w2.cell? ⟨w.heap.size, i, none⟩ = some v := by
  have hblk := heap_alloc_new w (.cells cs t)
  have hlt : w.heap.size < (w.alloc (.cells cs t)).heap.size := (Array.getElem?_eq_some_iff.1 hblk).1
  rw [hb.cell (p := ⟨w.heap.size, i, none⟩) hlt, cell_of_row _ _ _ _ _ (0, 0) hblk]
  exact h

set_option maxRecDepth 100000 in
set_option maxHeartbeats 2000000 in
theorem recright_any {w : World} {k t : Int} {la : Option Addr} {ln lc : Nat} {L : List Lab} {tx : ByteArray} {v : Int} {nl : Bool} (hf : RecV.fits ⟨k, t, la, ln, lc, L, tx, v, nl⟩) (h : LabsAt w la ln lc L) :
    Calls Try.prog 33 #[.agg #[.int .i64 k, .int .i64 t, .slice la ln lc, .string tx, .int .i64 v, .bool nl]] w fun e w' => e = .returned (.bool (isRec ⟨k, t, la, ln, lc, L, tx, v, nl⟩)) ∧ Below w.heap.size w w' := by
  obtain ⟨w1, hw1⟩ : ∃ w1, w1 = w.alloc (.cells #[.int .i64 k, .int .i64 t, .slice la ln lc, .string tx, .int .i64 v, .bool nl] 54) := ⟨_, rfl⟩
  have hb1 : Below w.heap.size w w1 := by rw [hw1]; exact (Below.refl _ _).alloc (Nat.le_refl _) _
  have HRI := Lib.hid (right_any (h.kept hb1))
  have HB1 := Lib.hid hb1
  have htx : tx.size ≤ 140737488355328 := hf.2.2.2.1
  rw [hw1] at HRI HB1
  have HRI := Lib.hid HRI.out
  clear h hb1 hf
  subst hw1
  have HWI := Lib.hid (fun w => within_any t 0 1099511627775 w)
  cases hin : (decide (0 ≤ t) && decide (t ≤ 1099511627775)) with
  | false =>
    rw [hin] at HWI
    have HF := Lib.hid (show isRec ⟨k, t, la, ln, lc, L, tx, v, nl⟩ = false by unfold isRec; simp only [hin, Bool.false_and])
    clear hin
    go_enter Try.func33, Try.ntmps33
    go_wp2_with fail
    refine (HWI.out _).mono ?_
    rintro e w2 ⟨rfl, rfl⟩
    go_wp2_with fail
    go_ret
    rw [HF.out]; exact ⟨rfl, HB1.out⟩
  | true =>
    rw [hin] at HWI
    cases hs : isSet L with
    | false =>
      have HF := Lib.hid (show isRec ⟨k, t, la, ln, lc, L, tx, v, nl⟩ = false by unfold isRec; simp only [hin, hs, Bool.true_and, Bool.false_and])
      rw [hs] at HRI
      clear hin hs
      go_enter Try.func33, Try.ntmps33
      go_wp2_with fail
      refine (HWI.out _).mono ?_
      rintro e w2 ⟨rfl, rfl⟩
      go_wp2_with fail
      refine HRI.out.mono ?_
      rintro e w2 ⟨rfl, hb2⟩
      have HB2 := Lib.hid (HB1.out.trans (hb2.mono HB1.out.size))
      clear hb2
      go_wp2_with fail
      go_ret
      rw [HF.out]; exact ⟨rfl, HB2.out⟩
    | true =>
      have HB := Lib.hid (show isRec ⟨k, t, la, ln, lc, L, tx, v, nl⟩ = isBody ⟨k, t, la, ln, lc, L, tx, v, nl⟩ by unfold isRec; simp only [hin, hs, Bool.true_and])
      rw [hs] at HRI
      clear hin hs
      by_cases hk1 : k = 1
      · subst hk1
        by_cases h2 : tx.size ≤ 200
        · have h2i : (tx.size : Int) ≤ 200 := by omega
          by_cases hv : v = 0
          · subst hv
            have HF := Lib.hid (show isRec ⟨1, t, la, ln, lc, L, tx, 0, nl⟩ = !nl by rw [HB.out]; simp [isBody, h2])
            clear h2
            go_enter Try.func33, Try.ntmps33
            go_wp2_with fail
            refine (HWI.out _).mono ?_
            rintro e w2 ⟨rfl, rfl⟩
            go_wp2_with fail
            refine HRI.out.mono ?_
            rintro e w2 ⟨rfl, hb2⟩
            have HB2 := Lib.hid (HB1.out.trans (hb2.mono HB1.out.size))
            have c0 := box_cell hb2 (i := 0) rfl
            have c3 := box_cell hb2 (i := 3) rfl
            have c4 := box_cell hb2 (i := 4) rfl
            have c5 := box_cell hb2 (i := 5) rfl
            clear hb2
            go_wp2_with fail
            go_ret
            rw [HF.out]; exact ⟨by simp, HB2.out⟩
          · have hvb : (v == 0) = false := by rw [beq_eq_false_iff_ne]; exact hv
            have HF := Lib.hid (show isRec ⟨1, t, la, ln, lc, L, tx, v, nl⟩ = false by rw [HB.out]; simp [isBody, hv])
            clear h2 hv
            go_enter Try.func33, Try.ntmps33
            go_wp2_with fail
            refine (HWI.out _).mono ?_
            rintro e w2 ⟨rfl, rfl⟩
            go_wp2_with fail
            refine HRI.out.mono ?_
            rintro e w2 ⟨rfl, hb2⟩
            have HB2 := Lib.hid (HB1.out.trans (hb2.mono HB1.out.size))
            have c0 := box_cell hb2 (i := 0) rfl
            have c3 := box_cell hb2 (i := 3) rfl
            have c4 := box_cell hb2 (i := 4) rfl
            have c5 := box_cell hb2 (i := 5) rfl
            clear hb2
            go_wp2_with fail
            go_ret
            rw [HF.out]; exact ⟨rfl, HB2.out⟩
        · have h2i : (200 : Int) < (tx.size : Int) := by omega
          have HF := Lib.hid (show isRec ⟨1, t, la, ln, lc, L, tx, v, nl⟩ = false by rw [HB.out]; simp [isBody, h2])
          clear h2
          go_enter Try.func33, Try.ntmps33
          go_wp2_with fail
          refine (HWI.out _).mono ?_
          rintro e w2 ⟨rfl, rfl⟩
          go_wp2_with fail
          refine HRI.out.mono ?_
          rintro e w2 ⟨rfl, hb2⟩
          have HB2 := Lib.hid (HB1.out.trans (hb2.mono HB1.out.size))
          have c0 := box_cell hb2 (i := 0) rfl
          have c3 := box_cell hb2 (i := 3) rfl
          have c4 := box_cell hb2 (i := 4) rfl
          have c5 := box_cell hb2 (i := 5) rfl
          clear hb2
          go_wp2_with fail
          go_ret
          rw [HF.out]; exact ⟨rfl, HB2.out⟩
      · have hk1b : (k == 1) = false := by rw [beq_eq_false_iff_ne]; exact hk1
        by_cases hk2 : k = 2
        · subst hk2
          clear hk1b hk1
          by_cases h2 : tx.size = 0
          · have htb : (tx.toList == []) = true := by rw [beq_iff_eq]; exact toList_nil h2
            by_cases hv : -1152921504606846976 ≤ v ∧ v ≤ 1152921504606846976
            · obtain ⟨hv1, hv2⟩ := hv
              have HWV := Lib.hid (fun w => within_any v (-1152921504606846976) 1152921504606846976 w)
              rw [show (decide (-1152921504606846976 ≤ v) && decide (v ≤ 1152921504606846976)) = true by simp [hv1, hv2]] at HWV
              cases nl with
              | false =>
                have HF := Lib.hid (show isRec ⟨2, t, la, ln, lc, L, tx, v, false⟩ = true by rw [HB.out]; simp [isBody, h2, hv1, hv2])
                clear h2
                go_enter Try.func33, Try.ntmps33
                go_wp2_with fail
                refine (HWI.out _).mono ?_
                rintro e w2 ⟨rfl, rfl⟩
                go_wp2_with fail
                refine HRI.out.mono ?_
                rintro e w2 ⟨rfl, hb2⟩
                have HB2 := Lib.hid (HB1.out.trans (hb2.mono HB1.out.size))
                have c0 := box_cell hb2 (i := 0) rfl
                have c3 := box_cell hb2 (i := 3) rfl
                have c4 := box_cell hb2 (i := 4) rfl
                have c5 := box_cell hb2 (i := 5) rfl
                clear hb2
                go_wp2_with fail
                refine (HWV.out _).mono ?_
                rintro e w3 ⟨rfl, rfl⟩
                go_wp2_with fail
                go_ret
                rw [HF.out]; exact ⟨rfl, HB2.out⟩
              | true =>
                by_cases hv : v = 0
                · subst hv
                  have HF := Lib.hid (show isRec ⟨2, t, la, ln, lc, L, tx, 0, true⟩ = true by rw [HB.out]; simp [isBody, h2])
                  clear h2
                  go_enter Try.func33, Try.ntmps33
                  go_wp2_with fail
                  refine (HWI.out _).mono ?_
                  rintro e w2 ⟨rfl, rfl⟩
                  go_wp2_with fail
                  refine HRI.out.mono ?_
                  rintro e w2 ⟨rfl, hb2⟩
                  have HB2 := Lib.hid (HB1.out.trans (hb2.mono HB1.out.size))
                  have c0 := box_cell hb2 (i := 0) rfl
                  have c3 := box_cell hb2 (i := 3) rfl
                  have c4 := box_cell hb2 (i := 4) rfl
                  have c5 := box_cell hb2 (i := 5) rfl
                  clear hb2
                  go_wp2_with fail
                  refine (HWV.out _).mono ?_
                  rintro e w3 ⟨rfl, rfl⟩
                  go_wp2_with fail
                  go_ret
                  rw [HF.out]; exact ⟨rfl, HB2.out⟩
                · have hvb : (v == 0) = false := by rw [beq_eq_false_iff_ne]; exact hv
                  have HF := Lib.hid (show isRec ⟨2, t, la, ln, lc, L, tx, v, true⟩ = false by rw [HB.out]; simp [isBody, hv])
                  clear h2 hv
                  go_enter Try.func33, Try.ntmps33
                  go_wp2_with fail
                  refine (HWI.out _).mono ?_
                  rintro e w2 ⟨rfl, rfl⟩
                  go_wp2_with fail
                  refine HRI.out.mono ?_
                  rintro e w2 ⟨rfl, hb2⟩
                  have HB2 := Lib.hid (HB1.out.trans (hb2.mono HB1.out.size))
                  have c0 := box_cell hb2 (i := 0) rfl
                  have c3 := box_cell hb2 (i := 3) rfl
                  have c4 := box_cell hb2 (i := 4) rfl
                  have c5 := box_cell hb2 (i := 5) rfl
                  clear hb2
                  go_wp2_with fail
                  refine (HWV.out _).mono ?_
                  rintro e w3 ⟨rfl, rfl⟩
                  go_wp2_with fail
                  go_ret
                  rw [HF.out]; exact ⟨rfl, HB2.out⟩
            · have HF := Lib.hid (show isRec ⟨2, t, la, ln, lc, L, tx, v, nl⟩ = false by rw [HB.out]; simp only [isBody]; simp; intro _ h1 h3; omega)
              have hvo : v < -1152921504606846976 ∨ (-1152921504606846976 ≤ v ∧ 1152921504606846976 < v) := by omega
              have HWV := Lib.hid (fun w => within_any v (-1152921504606846976) 1152921504606846976 w)
              rw [show (decide (-1152921504606846976 ≤ v) && decide (v ≤ 1152921504606846976)) = false by rcases hvo with g | ⟨_, g⟩ <;> simp <;> intro _ <;> omega] at HWV
              clear h2 hv
              clear hvo
              go_enter Try.func33, Try.ntmps33
              go_wp2_with fail
              refine (HWI.out _).mono ?_
              rintro e w2 ⟨rfl, rfl⟩
              go_wp2_with fail
              refine HRI.out.mono ?_
              rintro e w2 ⟨rfl, hb2⟩
              have HB2 := Lib.hid (HB1.out.trans (hb2.mono HB1.out.size))
              have c0 := box_cell hb2 (i := 0) rfl
              have c3 := box_cell hb2 (i := 3) rfl
              have c4 := box_cell hb2 (i := 4) rfl
              have c5 := box_cell hb2 (i := 5) rfl
              clear hb2
              go_wp2_with fail
              refine (HWV.out _).mono ?_
              rintro e w3 ⟨rfl, rfl⟩
              go_wp2_with fail
              go_ret
              rw [HF.out]; exact ⟨rfl, HB2.out⟩
          · have htb : (tx.toList == []) = false := by rw [beq_eq_false_iff_ne]; intro e; exact h2 (size_nil e)
            have HF := Lib.hid (show isRec ⟨2, t, la, ln, lc, L, tx, v, nl⟩ = false by rw [HB.out]; simp [isBody, h2])
            clear h2
            go_enter Try.func33, Try.ntmps33
            go_wp2_with fail
            refine (HWI.out _).mono ?_
            rintro e w2 ⟨rfl, rfl⟩
            go_wp2_with fail
            refine HRI.out.mono ?_
            rintro e w2 ⟨rfl, hb2⟩
            have HB2 := Lib.hid (HB1.out.trans (hb2.mono HB1.out.size))
            have c0 := box_cell hb2 (i := 0) rfl
            have c3 := box_cell hb2 (i := 3) rfl
            have c4 := box_cell hb2 (i := 4) rfl
            have c5 := box_cell hb2 (i := 5) rfl
            clear hb2
            go_wp2_with fail
            go_ret
            rw [HF.out]; exact ⟨rfl, HB2.out⟩
        · have hk2b : (k == 2) = false := by rw [beq_eq_false_iff_ne]; exact hk2
          have HF := Lib.hid (show isRec ⟨k, t, la, ln, lc, L, tx, v, nl⟩ = false by rw [HB.out]; simp [isBody, hk1, hk2])
          clear hk1 hk2
          go_enter Try.func33, Try.ntmps33
          go_wp2_with fail
          refine (HWI.out _).mono ?_
          rintro e w2 ⟨rfl, rfl⟩
          go_wp2_with fail
          refine HRI.out.mono ?_
          rintro e w2 ⟨rfl, hb2⟩
          have HB2 := Lib.hid (HB1.out.trans (hb2.mono HB1.out.size))
          have c0 := box_cell hb2 (i := 0) rfl
          have c3 := box_cell hb2 (i := 3) rfl
          have c4 := box_cell hb2 (i := 4) rfl
          have c5 := box_cell hb2 (i := 5) rfl
          clear hb2
          go_wp2_with fail
          go_ret
          rw [HF.out]; exact ⟨rfl, HB2.out⟩
end Go.Proofs.Ytjbljplgkbnpmaa
