/- May it be a record: the document's answer, walked. Written by genrecrright.py. -/
import Derived.Test.YtjbljplgkbnpmaaRecRight
namespace Go.Proofs.Ytjbljplgkbnpmaa
open Go.RowKit LabPlain RecPlain
set_option linter.unusedVariables false

set_option maxRecDepth 100000 in
set_option maxHeartbeats 2000000 in
theorem rrecright_any {w : World} {k t : Int} {la : Option Addr} {ln lc : Nat} {L : List Lab} {tx : ByteArray} {v : Int} {nl : Bool} (hf : RecV.fits ⟨k, t, la, ln, lc, L, tx, v, nl⟩) (h : LabsAt w la ln lc L) :
    Calls Try.prog 34 #[.agg #[.int .i64 k, .int .i64 t, .slice la ln lc, .string tx, .int .i64 v, .bool nl]] w fun e w' => e = .returned (.bool (isRec ⟨k, t, la, ln, lc, L, tx, v, nl⟩)) ∧ Below w.heap.size w w' := by
  obtain ⟨w1, hw1⟩ : ∃ w1, w1 = w.alloc (.cells #[.int .i64 k, .int .i64 t, .slice la ln lc, .string tx, .int .i64 v, .bool nl] 54) := ⟨_, rfl⟩
  have hb1 : Below w.heap.size w w1 := by rw [hw1]; exact (Below.refl _ _).alloc (Nat.le_refl _) _
  have HRI := Lib.hid (rright_any (h.kept hb1))
  have HB1 := Lib.hid hb1
  have htx : tx.size ≤ 140737488355328 := hf.2.2.2.1
  rw [hw1] at HRI HB1
  have HRI := Lib.hid HRI.out
  clear h hb1 hf
  subst hw1
  by_cases ht0 : t < 0
  · have HF := Lib.hid (show isRec ⟨k, t, la, ln, lc, L, tx, v, nl⟩ = false by unfold isRec; rw [decide_eq_false (show ¬ 0 ≤ t by omega)]; rfl)
    go_enter Try.func34, Try.ntmps34
    go_wp2_with fail
    go_ret
    rw [HF.out]; exact ⟨rfl, HB1.out⟩
  · have ht0i : 0 ≤ t := by omega
    clear ht0
    by_cases ht1 : 1099511627775 < t
    · have HF := Lib.hid (show isRec ⟨k, t, la, ln, lc, L, tx, v, nl⟩ = false by unfold isRec; rw [decide_eq_false (show ¬ t ≤ 1099511627775 by omega), Bool.and_false]; rfl)
      go_enter Try.func34, Try.ntmps34
      go_wp2_with fail
      go_ret
      rw [HF.out]; exact ⟨rfl, HB1.out⟩
    · have ht1i : t ≤ 1099511627775 := by omega
      clear ht1
      have HB := Lib.hid (show isRec ⟨k, t, la, ln, lc, L, tx, v, nl⟩ = (isSet L && isBody ⟨k, t, la, ln, lc, L, tx, v, nl⟩) by unfold isRec; simp only [decide_eq_true ht0i, decide_eq_true ht1i, Bool.true_and])
      cases hs : isSet L with
      | false =>
        have HF := Lib.hid (show isRec ⟨k, t, la, ln, lc, L, tx, v, nl⟩ = false by rw [HB.out, hs]; rfl)
        rw [hs] at HRI
        clear hs
        go_enter Try.func34, Try.ntmps34
        go_wp2_with fail
        refine HRI.out.mono ?_
        rintro e w2 ⟨rfl, hb2⟩
        have HB2 := Lib.hid (HB1.out.trans (hb2.mono HB1.out.size))
        clear hb2
        go_wp2_with fail
        go_ret
        rw [HF.out]; exact ⟨rfl, HB2.out⟩
      | true =>
        rw [hs] at HRI HB
        have HB := Lib.hid (HB.out.trans (Bool.true_and _))
        clear hs
        by_cases hk1 : k = 1
        · subst hk1
          by_cases h2 : tx.size ≤ 200
          · have h2i : (tx.size : Int) ≤ 200 := by omega
            by_cases hv : v = 0
            · subst hv
              have HF := Lib.hid (show isRec ⟨1, t, la, ln, lc, L, tx, 0, nl⟩ = !nl by rw [HB.out]; simp [isBody, h2])
              clear h2
              go_enter Try.func34, Try.ntmps34
              go_wp2_with fail
              refine HRI.out.mono ?_
              rintro e w2 ⟨rfl, hb2⟩
              have HB2 := Lib.hid (HB1.out.trans (hb2.mono HB1.out.size))
              have c0 := box_cell hb2 (i := 0) rfl
              have c3 := box_cell hb2 (i := 3) rfl
              have c4 := box_cell hb2 (i := 4) rfl
              have c5 := box_cell hb2 (i := 5) rfl
              clear hb2
              go_wp2_with fail
              go_ret
              rw [HF.out]; exact ⟨by simp, HB2.out⟩
            · have hvb : (v == 0) = false := by rw [beq_eq_false_iff_ne]; exact hv
              have HF := Lib.hid (show isRec ⟨1, t, la, ln, lc, L, tx, v, nl⟩ = false by rw [HB.out]; simp [isBody, hv])
              clear h2 hv
              go_enter Try.func34, Try.ntmps34
              go_wp2_with fail
              refine HRI.out.mono ?_
              rintro e w2 ⟨rfl, hb2⟩
              have HB2 := Lib.hid (HB1.out.trans (hb2.mono HB1.out.size))
              have c0 := box_cell hb2 (i := 0) rfl
              have c3 := box_cell hb2 (i := 3) rfl
              have c4 := box_cell hb2 (i := 4) rfl
              have c5 := box_cell hb2 (i := 5) rfl
              clear hb2
              go_wp2_with fail
              go_ret
              rw [HF.out]; exact ⟨rfl, HB2.out⟩
          · have h2i : (200 : Int) < (tx.size : Int) := by omega
            have HF := Lib.hid (show isRec ⟨1, t, la, ln, lc, L, tx, v, nl⟩ = false by rw [HB.out]; simp [isBody, h2])
            clear h2
            go_enter Try.func34, Try.ntmps34
            go_wp2_with fail
            refine HRI.out.mono ?_
            rintro e w2 ⟨rfl, hb2⟩
            have HB2 := Lib.hid (HB1.out.trans (hb2.mono HB1.out.size))
            have c0 := box_cell hb2 (i := 0) rfl
            have c3 := box_cell hb2 (i := 3) rfl
            have c4 := box_cell hb2 (i := 4) rfl
            have c5 := box_cell hb2 (i := 5) rfl
            clear hb2
            go_wp2_with fail
            go_ret
            rw [HF.out]; exact ⟨rfl, HB2.out⟩
        · have hk1b : (k == 1) = false := by rw [beq_eq_false_iff_ne]; exact hk1
          by_cases hk2 : k = 2
          · subst hk2
            clear hk1b hk1
            by_cases h2 : tx.size = 0
            · have htb : tx.toList = [] := toList_nil h2
              cases nl with
              | true =>
                by_cases hv : v = 0
                · subst hv
                  have HF := Lib.hid (show isRec ⟨2, t, la, ln, lc, L, tx, 0, true⟩ = true by rw [HB.out]; simp [isBody, h2])
                  clear h2
                  go_enter Try.func34, Try.ntmps34
                  go_wp2_with fail
                  refine HRI.out.mono ?_
                  rintro e w2 ⟨rfl, hb2⟩
                  have HB2 := Lib.hid (HB1.out.trans (hb2.mono HB1.out.size))
                  have c0 := box_cell hb2 (i := 0) rfl
                  have c3 := box_cell hb2 (i := 3) rfl
                  have c4 := box_cell hb2 (i := 4) rfl
                  have c5 := box_cell hb2 (i := 5) rfl
                  clear hb2
                  go_wp2_with fail
                  go_ret
                  rw [HF.out]; exact ⟨rfl, HB2.out⟩
                · have hvb : (v != 0) = true := by rw [bne_iff_ne]; exact hv
                  have HF := Lib.hid (show isRec ⟨2, t, la, ln, lc, L, tx, v, true⟩ = false by rw [HB.out]; simp [isBody, hv])
                  clear h2 hv
                  go_enter Try.func34, Try.ntmps34
                  go_wp2_with fail
                  refine HRI.out.mono ?_
                  rintro e w2 ⟨rfl, hb2⟩
                  have HB2 := Lib.hid (HB1.out.trans (hb2.mono HB1.out.size))
                  have c0 := box_cell hb2 (i := 0) rfl
                  have c3 := box_cell hb2 (i := 3) rfl
                  have c4 := box_cell hb2 (i := 4) rfl
                  have c5 := box_cell hb2 (i := 5) rfl
                  clear hb2
                  go_wp2_with fail
                  go_ret
                  rw [HF.out]; exact ⟨rfl, HB2.out⟩
              | false =>
                by_cases hv1 : -1152921504606846976 ≤ v
                · by_cases hv2 : v ≤ 1152921504606846976
                  · have HF := Lib.hid (show isRec ⟨2, t, la, ln, lc, L, tx, v, false⟩ = true by rw [HB.out]; simp [isBody, h2, hv1, hv2])
                    clear h2
                    go_enter Try.func34, Try.ntmps34
                    go_wp2_with fail
                    refine HRI.out.mono ?_
                    rintro e w2 ⟨rfl, hb2⟩
                    have HB2 := Lib.hid (HB1.out.trans (hb2.mono HB1.out.size))
                    have c0 := box_cell hb2 (i := 0) rfl
                    have c3 := box_cell hb2 (i := 3) rfl
                    have c4 := box_cell hb2 (i := 4) rfl
                    have c5 := box_cell hb2 (i := 5) rfl
                    clear hb2
                    go_wp2_with fail
                    go_ret
                    rw [HF.out]; exact ⟨rfl, HB2.out⟩
                  · have hv2i : 1152921504606846976 < v := by omega
                    have HF := Lib.hid (show isRec ⟨2, t, la, ln, lc, L, tx, v, false⟩ = false by rw [HB.out]; simp [isBody, hv2])
                    clear h2 hv2
                    go_enter Try.func34, Try.ntmps34
                    go_wp2_with fail
                    refine HRI.out.mono ?_
                    rintro e w2 ⟨rfl, hb2⟩
                    have HB2 := Lib.hid (HB1.out.trans (hb2.mono HB1.out.size))
                    have c0 := box_cell hb2 (i := 0) rfl
                    have c3 := box_cell hb2 (i := 3) rfl
                    have c4 := box_cell hb2 (i := 4) rfl
                    have c5 := box_cell hb2 (i := 5) rfl
                    clear hb2
                    go_wp2_with fail
                    go_ret
                    rw [HF.out]; exact ⟨by simp; omega, HB2.out⟩
                · have hv1i : v < -1152921504606846976 := by omega
                  have HF := Lib.hid (show isRec ⟨2, t, la, ln, lc, L, tx, v, false⟩ = false by rw [HB.out]; simp [isBody, hv1])
                  clear h2 hv1
                  go_enter Try.func34, Try.ntmps34
                  go_wp2_with fail
                  refine HRI.out.mono ?_
                  rintro e w2 ⟨rfl, hb2⟩
                  have HB2 := Lib.hid (HB1.out.trans (hb2.mono HB1.out.size))
                  have c0 := box_cell hb2 (i := 0) rfl
                  have c3 := box_cell hb2 (i := 3) rfl
                  have c4 := box_cell hb2 (i := 4) rfl
                  have c5 := box_cell hb2 (i := 5) rfl
                  clear hb2
                  go_wp2_with fail
                  go_ret
                  rw [HF.out]; exact ⟨rfl, HB2.out⟩
            · have htb : ¬ tx.toList = [] := fun e => h2 (size_nil e)
              have HF := Lib.hid (show isRec ⟨2, t, la, ln, lc, L, tx, v, nl⟩ = false by rw [HB.out]; simp [isBody, h2])
              clear h2
              go_enter Try.func34, Try.ntmps34
              go_wp2_with fail
              refine HRI.out.mono ?_
              rintro e w2 ⟨rfl, hb2⟩
              have HB2 := Lib.hid (HB1.out.trans (hb2.mono HB1.out.size))
              have c0 := box_cell hb2 (i := 0) rfl
              have c3 := box_cell hb2 (i := 3) rfl
              have c4 := box_cell hb2 (i := 4) rfl
              have c5 := box_cell hb2 (i := 5) rfl
              clear hb2
              go_wp2_with fail
              go_ret
              rw [HF.out]; exact ⟨rfl, HB2.out⟩
          · have hk2b : (k != 2) = true := by rw [bne_iff_ne]; exact hk2
            have HF := Lib.hid (show isRec ⟨k, t, la, ln, lc, L, tx, v, nl⟩ = false by rw [HB.out]; simp [isBody, hk1, hk2])
            clear hk1 hk2
            go_enter Try.func34, Try.ntmps34
            go_wp2_with fail
            refine HRI.out.mono ?_
            rintro e w2 ⟨rfl, hb2⟩
            have HB2 := Lib.hid (HB1.out.trans (hb2.mono HB1.out.size))
            have c0 := box_cell hb2 (i := 0) rfl
            have c3 := box_cell hb2 (i := 3) rfl
            have c4 := box_cell hb2 (i := 4) rfl
            have c5 := box_cell hb2 (i := 5) rfl
            clear hb2
            go_wp2_with fail
            go_ret
            rw [HF.out]; exact ⟨rfl, HB2.out⟩
end Go.Proofs.Ytjbljplgkbnpmaa
