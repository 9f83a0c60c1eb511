/- Package label's Right, walked. -/
import Derived.Test.YtjbljplgkbnpmaaLabAt
import Derived.Laws.Cover1
namespace Go.Proofs.Ytjbljplgkbnpmaa
open Go.RowKit LabPlain
set_option linter.unusedVariables false

theorem below_drewN {B : Nat} {a w : World} (h : Below B a w) (q : Nat) : Below B a (w.drewN q) := ⟨h.os, h.tape, h.output, h.size, h.block⟩

set_option maxRecDepth 100000 in
set_option maxHeartbeats 1000000 in
theorem right_any {w : World} {a : Option Addr} {n c : Nat} {l : List Lab} (h : LabsAt w a n c l) :
    Calls Try.prog 20 #[.slice a n c] w fun e w' => e = .returned (.bool (isSet l)) ∧ Below w.heap.size w w' := by
  have hlen := h.len
  have hcap := h.cap
  have hcm := h.capm
  have HH := Lib.hid h
  have HL := Lib.hid hlen
  clear h hlen
  by_cases h4 : 4 < n
  · have HR := Lib.hid (show isSet l = false by unfold isSet; rw [decide_eq_false (by rw [HL.out]; omega)]; rfl)
    have h4i : (4 : Int) < (n : Int) := by omega
    clear h4
    go_enter Try.func20, Try.ntmps20
    go_wp2_with fail
    go_ret
    rw [HR.out]; exact ⟨rfl, Below.refl _ _⟩
  · have h4i : (n : Int) ≤ 4 := by omega
    have HR := Lib.hid (show isSet l = upTo l n by unfold isSet; rw [decide_eq_true (by rw [HL.out]; omega), HL.out]; rfl)
    clear h4
    go_enter Try.func20, Try.ntmps20
    go_wp2_with fail
    go_loopw [10] (fun s10 wr => ∃ k : Nat, k ≤ n ∧ s10 = .int .i64 (k : Int) ∧ Hid (upTo l k = true) ∧ Hid (Below w.heap.size w wr)) (fun s10 _ => n - (intOf s10).toNat)
    case atStart => exact ⟨0, by omega, rfl, Lib.hid rfl, Lib.hid (Below.refl _ _)⟩
    case round =>
      obtain ⟨k, hk, rfl, HU, HB⟩ := hrel
      rename World => wr
      by_cases hkn : k < n
      · obtain ⟨b, off, rfl, hlt, hcell⟩ := (HH.out.kept HB.out).cells (by omega)
        obtain ⟨h1, h2⟩ := hcell k hkn
        have hsz := HH.out.size _ (lab_mem (l := l) (i := k) (by have := HL.out; omega))
        obtain ⟨x1, hx1⟩ : ∃ x, x = (l.getD k lab0).1 := ⟨_, rfl⟩
        obtain ⟨x2, hx2⟩ : ∃ x, x = (l.getD k lab0).2 := ⟨_, rfl⟩
        rw [← hx1] at h1 hsz
        rw [← hx2] at h2 hsz
        have HX1 := Lib.hid hx1
        have HX2 := Lib.hid hx2
        have HC := Lib.hid hcell
        have hno := fun (h : (isNm x1 && decide (x2.size ≤ 16) && (decide (k = 0) || ltB (l.getD (k - 1) lab0).1 x1)) = false) => (show isSet l = false by
          rw [HR.out]
          rw [HX1.out, HX2.out] at h
          have := upTo_no (l := l) (k := k) h (n - (k + 1))
          rw [show k + 1 + (n - (k + 1)) = n from by omega] at this
          exact this)
        have HNO := Lib.hid hno
        have hnm := isname_any x1 (by omega) (wr.alloc (.cells #[.string x1, .string x2] 41))
        have hb2 : Below w.heap.size w (wr.alloc (.cells #[.string x1, .string x2] 41)) := HB.out.alloc HB.out.size _
        have HB2 := Lib.hid hb2
        clear hx1 hx2 hcell hno hb2
        cases hn : isNm x1 with
        | false =>
          rw [hn] at hnm
          have HN := Lib.hid hnm
          have HF := Lib.hid (HNO.out (by rw [hn]; rfl))
          clear hnm hn
          go_wp2_with fail
          refine HN.out.mono ?_
          rintro e w2 ⟨rfl, rfl⟩
          go_wp2_with fail
          go_ret
          rw [HF.out]; exact ⟨rfl, HB2.out⟩
        | true =>
          rw [hn] at hnm
          have HN := Lib.hid hnm
          have HNM := Lib.hid hn
          clear hnm hn
          by_cases h16 : 16 < x2.size
          · have HF := Lib.hid (HNO.out (by rw [decide_eq_false (show ¬ x2.size ≤ 16 by omega), Bool.and_false]; rfl))
            have h16i : (16 : Int) < (x2.size : Int) := by omega
            clear h16
            go_wp2_with fail
            refine HN.out.mono ?_
            rintro e w2 ⟨rfl, rfl⟩
            go_wp2_with fail
            go_ret
            rw [HF.out]; exact ⟨rfl, HB2.out⟩
          · have h16i : (x2.size : Int) ≤ 16 := by omega
            have HD := Lib.hid (show decide (x2.size ≤ 16) = true from decide_eq_true (by omega))
            clear h16
            rcases Nat.eq_zero_or_pos k with rfl | hk0
            · rw [Nat.zero_mul, Nat.add_zero] at h1 h2
              have HU2 := Lib.hid (show upTo l (0 + 1) = true by rw [upTo, HU.out, ← HX1.out, ← HX2.out, HNM.out, HD.out]; rfl)
              go_wp2_with fail
              refine HN.out.mono ?_
              rintro e w2 ⟨rfl, rfl⟩
              go_wp2_with fail
              go_quiet (fail)
              rename Nat => nq
              go_wp2_with fail
              go_roundw
              case rel => exact ⟨1, by omega, by go_num, HU2, Lib.hid (below_drewN HB2.out nq)⟩
              case measure => simp [intOf]; omega
            · obtain ⟨j, rfl⟩ : ∃ j, k = j + 1 := ⟨k - 1, by omega⟩
              obtain ⟨y, hy⟩ : ∃ y, y = (l.getD j lab0).1 := ⟨_, rfl⟩
              have hcy := (HC.out j (by omega)).1
              rw [← hy] at hcy
              have hcy2 : (wr.alloc (.cells #[.string x1, .string x2] 41)).cell? ⟨b, off + j * 2, none⟩ = some (.string y) := by
                rw [← hcy]; exact ((Below.refl wr.heap.size wr).alloc (Nat.le_refl _) _).cell (p := ⟨b, off + j * 2, none⟩) hlt
              have HY := Lib.hid hy
              have hjn : (j : Int) < (n : Int) := by omega
              have hw1 : IntKind.i64.wrap (j : Int) = (j : Int) := IntWalk.i64_in _ (by omega)
              have hw2 : IntKind.i64.wrap ((j : Int) + 1 - 1) = (j : Int) := by rw [Int.add_sub_cancel]; exact hw1
              clear hy hcy hk0
              cases hlt2 : ltB y x1 with
              | true =>
                have hle : (Op.bytesLess x1.toList y.toList || x1.toList == y.toList) = false := by rw [leq_not, hlt2]; rfl
                have HU2 := Lib.hid (show upTo l (j + 1 + 1) = true by rw [upTo, HU.out, ← HX1.out, ← HX2.out, HNM.out, HD.out, Nat.add_sub_cancel, ← HY.out, hlt2]; simp)
                clear hlt2
                go_wp2_with fail
                refine HN.out.mono ?_
                rintro e w2 ⟨rfl, rfl⟩
                go_wp2_with fail
                go_quiet (fail)
                rename Nat => nq
                go_wp2_with fail
                go_roundw
                case rel => exact ⟨j + 1 + 1, by omega, by go_num, HU2, Lib.hid (below_drewN HB2.out nq)⟩
                case measure => simp [intOf]; omega
              | false =>
                have hle : (Op.bytesLess x1.toList y.toList || x1.toList == y.toList) = true := by rw [leq_not, hlt2]; rfl
                have HF := Lib.hid (HNO.out (by rw [Nat.add_sub_cancel, ← HY.out, hlt2]; simp))
                clear hlt2
                go_wp2_with fail
                refine HN.out.mono ?_
                rintro e w2 ⟨rfl, rfl⟩
                go_wp2_with fail
                go_quiet (fail)
                rename Nat => nq
                go_wp2_with fail
                go_ret
                rw [HF.out]; exact ⟨rfl, below_drewN HB2.out nq⟩
      · obtain rfl : k = n := by omega
        have HT := Lib.hid (show isSet l = true by rw [HR.out]; exact HU.out)
        clear hkn
        go_wp2_with fail
        go_ret
        rw [HT.out]; exact ⟨rfl, HB.out⟩
end Go.Proofs.Ytjbljplgkbnpmaa
