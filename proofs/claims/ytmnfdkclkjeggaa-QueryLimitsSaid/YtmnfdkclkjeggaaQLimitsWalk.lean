/- The law QueryLimits, walked. Written by genqlim.py. -/
import Derived.Test.YtmnfdkclkjeggaaQLives
import Derived.Test.YtmnfdkclkjeggaaQFull
import Derived.Test.YtmnfdkclkjeggaaRowCmp
import Derived.Deep.RegionHeld3
import Derived.Deep.CutBlock
namespace Go.Proofs.Ytmnfdkclkjeggaa
open Go.ChangeShapes Go.WideShapes Go.Deep Go.RowKit LabPlain RecPlain Stab
set_option linter.unusedVariables false

set_option maxRecDepth 100000 in
set_option maxHeartbeats 8000000 in
theorem query_limits (fr tu : Int) (a : Option Addr) (n c : Nat) (ms : List Mat) (lim : Int) (tx : Bool) (ra : Option Addr) (rn rc : Nat) (l : List RowV) (cut : Int) (w : World) (h : MatsAt w a n c ms) (hr : RowsAt w ra rn rc l) (_ : (Lit.int .i64 cut).wf = true) :
    Calls Try.prog 10 #[.agg #[.int .i64 fr, .int .i64 tu, .slice a n c, .int .i64 lim, .bool tx], .slice ra rn rc, .int .i64 cut] w fun e w' => e = .returned (.bool true) ∧ Below w.heap.size w w' := by
  obtain ⟨w1, hw1⟩ : ∃ w1, w1 = w.alloc (.cells #[.int .i64 fr, .int .i64 tu, .slice a n c, .int .i64 lim, .bool tx] 59) := ⟨_, rfl⟩
  have hb1 : Below w.heap.size w w1 := by rw [hw1]; exact (Below.refl _ _).alloc (Nat.le_refl _) _
  have HW1 := Lib.hid hw1
  have HB1 := Lib.hid hb1
  have HM := Lib.hid (h.keep hb1 (Nat.le_refl _))
  have HR := Lib.hid (hr.kept hb1)
  have HL := Lib.hid hr.len
  have hrc := hr.cap
  have hrm := hr.capm
  have HQ := Lib.hid (show ∀ wr, Below w1.heap.size w1 wr → Below (w.alloc (.cells #[.int .i64 fr, .int .i64 tu, .slice a n c, .int .i64 lim, .bool tx] 59)).heap.size (w.alloc (.cells #[.int .i64 fr, .int .i64 tu, .slice a n c, .int .i64 lim, .bool tx] 59)) wr from fun wr hb => by rw [hw1] at hb; exact hb)
  clear h hr hb1 hw1
  go_enter Try.func10, Try.ntmps10
  go_wp2_with fail
  rw [← HW1.out]
  refine (lives12_any _).mono ?_
  rintro e w2 ⟨rfl, hb2⟩
  have HB2 := Lib.hid hb2
  have q0 : w2.cell? ⟨w.heap.size, 0, none⟩ = some (.int .i64 fr) := box_cell (HQ.out w2 HB2.out) rfl
  have q1 : w2.cell? ⟨w.heap.size, 1, none⟩ = some (.int .i64 tu) := box_cell (HQ.out w2 HB2.out) rfl
  have q2 : w2.cell? ⟨w.heap.size, 2, none⟩ = some (.slice a n c) := box_cell (HQ.out w2 HB2.out) rfl
  have q3 : w2.cell? ⟨w.heap.size, 3, none⟩ = some (.int .i64 lim) := box_cell (HQ.out w2 HB2.out) rfl
  have q4 : w2.cell? ⟨w.heap.size, 4, none⟩ = some (.bool tx) := box_cell (HQ.out w2 HB2.out) rfl
  clear hb2
  go_wp2_with fail
  refine (qfew_any (HM.out.keep HB2.out (Nat.le_refl _)) (HR.out.kept HB2.out)).mono ?_
  rintro e w3 ⟨r, rfl, hfew, hb3⟩
  have HB3 := Lib.hid (HB2.out.trans (hb3.mono HB2.out.size))
  have HFEW := Lib.hid hfew
  clear hb3 hfew q0 q1 q2 q3 q4
  cases r
  case false =>
    go_wp2_with fail
    refine (lives12_any _).mono ?_
    rintro e w4 ⟨rfl, hb4⟩
    have HB4 := Lib.hid (HB3.out.trans (hb4.mono HB3.out.size))
    clear hb4
    go_wp2_with fail
    go_ret
    exact ⟨rfl, HB1.out.trans (HB4.out.mono HB1.out.size)⟩
  case true =>
    have hn : rn ≤ 60 := HFEW.out rfl
    have q0 : w3.cell? ⟨w.heap.size, 0, none⟩ = some (.int .i64 fr) := box_cell (HQ.out w3 HB3.out) rfl
    have q1 : w3.cell? ⟨w.heap.size, 1, none⟩ = some (.int .i64 tu) := box_cell (HQ.out w3 HB3.out) rfl
    have q2 : w3.cell? ⟨w.heap.size, 2, none⟩ = some (.slice a n c) := box_cell (HQ.out w3 HB3.out) rfl
    have q3 : w3.cell? ⟨w.heap.size, 3, none⟩ = some (.int .i64 lim) := box_cell (HQ.out w3 HB3.out) rfl
    have q4 : w3.cell? ⟨w.heap.size, 4, none⟩ = some (.bool tx) := box_cell (HQ.out w3 HB3.out) rfl
    go_wp2_with fail
    refine (qright_any (HM.out.keep HB3.out (Nat.le_refl _))).mono ?_
    rintro e w4 ⟨rfl, hb4⟩
    have HB4 := Lib.hid (HB3.out.trans (hb4.mono HB3.out.size))
    clear hb4 q0 q1 q2 q3 q4
    have q0 : w4.cell? ⟨w.heap.size, 0, none⟩ = some (.int .i64 fr) := box_cell (HQ.out w4 HB4.out) rfl
    have q1 : w4.cell? ⟨w.heap.size, 1, none⟩ = some (.int .i64 tu) := box_cell (HQ.out w4 HB4.out) rfl
    have q2 : w4.cell? ⟨w.heap.size, 2, none⟩ = some (.slice a n c) := box_cell (HQ.out w4 HB4.out) rfl
    have q3 : w4.cell? ⟨w.heap.size, 3, none⟩ = some (.int .i64 lim) := box_cell (HQ.out w4 HB4.out) rfl
    have q4 : w4.cell? ⟨w.heap.size, 4, none⟩ = some (.bool tx) := box_cell (HQ.out w4 HB4.out) rfl
    cases hqr : qRight (⟨fr, tu, ms, lim, tx⟩ : QP) with
    | false =>
      clear hqr
      go_wp2_with fail
      refine (lives12_any _).mono ?_
      rintro e w9 ⟨rfl, hb9⟩
      have HB9 := Lib.hid (HB4.out.trans (hb9.mono HB4.out.size))
      clear hb9
      go_wp2_with fail
      go_ret
      exact ⟨rfl, HB1.out.trans (HB9.out.mono HB1.out.size)⟩
    | true =>
      have HQR := Lib.hid hqr
      clear hqr
      by_cases c1 : cut < fr
      case pos =>
        go_wp2_with fail
        refine (lives12_any _).mono ?_
        rintro e w9 ⟨rfl, hb9⟩
        have HB9 := Lib.hid (HB4.out.trans (hb9.mono HB4.out.size))
        clear hb9
        go_wp2_with fail
        go_ret
        exact ⟨rfl, HB1.out.trans (HB9.out.mono HB1.out.size)⟩
      case neg =>
        by_cases c2 : tu < cut
        case pos =>
          go_wp2_with fail
          refine (lives12_any _).mono ?_
          rintro e w9 ⟨rfl, hb9⟩
          have HB9 := Lib.hid (HB4.out.trans (hb9.mono HB4.out.size))
          clear hb9
          go_wp2_with fail
          go_ret
          exact ⟨rfl, HB1.out.trans (HB9.out.mono HB1.out.size)⟩
        case neg =>
          go_upto_region 3 with fail
          refine wp_region_inv (by kernel_rfl) (by kernel_rfl) (by kernel_rfl) (IB 59 3 w4 #[.int .i64 fr, .int .i64 tu, .slice a n c, .int .i64 lim, .bool tx]) (fun V => IB.start _ _ _ _ V) ?_ ?_
          · intro i o ho L V w5 K hI hL hdep hK
            have hbe := hI.below
            have c0 : w5.cell? ⟨w.heap.size, 0, none⟩ = some (.int .i64 fr) := box_cell (HQ.out _ (HB4.out.trans (hbe.mono HB4.out.size))) rfl
            have c1 : w5.cell? ⟨w.heap.size, 1, none⟩ = some (.int .i64 tu) := box_cell (HQ.out _ (HB4.out.trans (hbe.mono HB4.out.size))) rfl
            have c2 : w5.cell? ⟨w.heap.size, 2, none⟩ = some (.slice a n c) := box_cell (HQ.out _ (HB4.out.trans (hbe.mono HB4.out.size))) rfl
            have c3 : w5.cell? ⟨w.heap.size, 3, none⟩ = some (.int .i64 lim) := box_cell (HQ.out _ (HB4.out.trans (hbe.mono HB4.out.size))) rfl
            have c4 : w5.cell? ⟨w.heap.size, 4, none⟩ = some (.bool tx) := box_cell (HQ.out _ (HB4.out.trans (hbe.mono HB4.out.size))) rfl
            have hi9 : i < 9 := (Array.getElem?_eq_some_iff.1 ho).1
            have hcs : i = 0 ∨ i = 1 ∨ i = 2 ∨ i = 3 ∨ i = 4 ∨ i = 5 ∨ i = 6 ∨ i = 7 ∨ i = 8 := by omega
            clear q0 q1 q2 q3 q4
            rcases hcs with rfl | rfl | rfl | rfl | rfl | rfl | rfl | rfl | rfl
            · obtain rfl := Option.some.inj ho.symm
              have HI := Lib.hid (hI.ld (i := 0) (by omega))
              clear hI hL hdep ho hbe
              simp only [fill, slotOf, List.size_toArray, List.length_cons, List.length_nil, Nat.reduceAdd, List.getElem?_toArray, List.getElem?_cons_zero, List.getElem?_cons_succ, Option.bind_some, Act.put, List.setIfInBounds_toArray, List.set_cons_zero, List.set_cons_succ] at hK ⊢
              go_simp
              exact hK _ _ HI.out _ rfl
            · obtain rfl := Option.some.inj ho.symm
              have HI := Lib.hid (hI.ld (i := 1) (by omega))
              clear hI hL hdep ho hbe
              simp only [fill, slotOf, List.size_toArray, List.length_cons, List.length_nil, Nat.reduceAdd, List.getElem?_toArray, List.getElem?_cons_zero, List.getElem?_cons_succ, Option.bind_some, Act.put, List.setIfInBounds_toArray, List.set_cons_zero, List.set_cons_succ] at hK ⊢
              go_simp
              exact hK _ _ HI.out _ rfl
            · obtain rfl := Option.some.inj ho.symm
              have HI := Lib.hid (hI.ld (i := 2) (by omega))
              clear hI hL hdep ho hbe
              simp only [fill, slotOf, List.size_toArray, List.length_cons, List.length_nil, Nat.reduceAdd, List.getElem?_toArray, List.getElem?_cons_zero, List.getElem?_cons_succ, Option.bind_some, Act.put, List.setIfInBounds_toArray, List.set_cons_zero, List.set_cons_succ] at hK ⊢
              go_simp
              exact hK _ _ HI.out _ rfl
            · obtain rfl := Option.some.inj ho.symm
              have HI := Lib.hid (hI.al (i := 3) (by omega) (by omega) hL #[.int .i64 0, .int .i64 0, .slice none 0 0, .int .i64 0, .bool false] rfl)
              clear hI hL hdep ho hbe c0 c1 c2 c3 c4
              simp only [fill, slotOf, List.size_toArray, List.length_cons, List.length_nil, Nat.reduceAdd, List.getElem?_toArray, List.getElem?_cons_zero, List.getElem?_cons_succ, Option.bind_some, Act.put, List.setIfInBounds_toArray, List.set_cons_zero, List.set_cons_succ] at hK ⊢
              go_simp
              exact hK _ _ HI.out _ rfl
            · obtain rfl := Option.some.inj ho.symm
              have HI := Lib.hid (hI.al (i := 4) (by omega) (by omega) hL #[.int .i64 0, .int .i64 0, .slice none 0 0, .int .i64 0, .bool false] rfl)
              clear hI hL hdep ho hbe c0 c1 c2 c3 c4
              simp only [fill, slotOf, List.size_toArray, List.length_cons, List.length_nil, Nat.reduceAdd, List.getElem?_toArray, List.getElem?_cons_zero, List.getElem?_cons_succ, Option.bind_some, Act.put, List.setIfInBounds_toArray, List.set_cons_zero, List.set_cons_succ] at hK ⊢
              go_simp
              exact hK _ _ HI.out _ rfl
            · obtain rfl := Option.some.inj ho.symm
              have HI := Lib.hid (hI.al (i := 5) (by omega) (by omega) hL #[.int .i64 0, .int .i64 0, .slice none 0 0, .int .i64 0, .bool false] rfl)
              clear hI hL hdep ho hbe c0 c1 c2 c3 c4
              simp only [fill, slotOf, List.size_toArray, List.length_cons, List.length_nil, Nat.reduceAdd, List.getElem?_toArray, List.getElem?_cons_zero, List.getElem?_cons_succ, Option.bind_some, Act.put, List.setIfInBounds_toArray, List.set_cons_zero, List.set_cons_succ] at hK ⊢
              go_simp
              exact hK _ _ HI.out _ rfl
            · obtain rfl := Option.some.inj ho.symm
              have hlj : L 3 = true := hdep ⟨3, .data⟩ (by simp) rfl
              have hl0 : L 0 = true := hdep ⟨0, .data⟩ (by simp) rfl
              simp only [fill, slotOf, List.size_toArray, List.length_cons, List.length_nil, Nat.reduceAdd, List.getElem?_toArray, List.getElem?_cons_zero, List.getElem?_cons_succ, Option.bind_some, Act.put, List.setIfInBounds_toArray, List.set_cons_zero, List.set_cons_succ] at hK ⊢
              simp only [Region.wanted]
              refine IB.store (i := 3) hI (by decide) (by decide) hlj hl0 (by kernel_rfl) (by simp [Value.oneCell']) (.tmp 7) (.tmp 38) rfl rfl rfl (fun w2 h2 => hK undef w2 h2 _ rfl)
            · obtain rfl := Option.some.inj ho.symm
              have hlj : L 4 = true := hdep ⟨4, .data⟩ (by simp) rfl
              have hl0 : L 1 = true := hdep ⟨1, .data⟩ (by simp) rfl
              simp only [fill, slotOf, List.size_toArray, List.length_cons, List.length_nil, Nat.reduceAdd, List.getElem?_toArray, List.getElem?_cons_zero, List.getElem?_cons_succ, Option.bind_some, Act.put, List.setIfInBounds_toArray, List.set_cons_zero, List.set_cons_succ] at hK ⊢
              simp only [Region.wanted]
              refine IB.store (i := 4) hI (by decide) (by decide) hlj hl0 (by kernel_rfl) (by simp [Value.oneCell']) (.tmp 8) (.tmp 39) rfl rfl rfl (fun w2 h2 => hK undef w2 h2 _ rfl)
            · obtain rfl := Option.some.inj ho.symm
              have hlj : L 5 = true := hdep ⟨5, .data⟩ (by simp) rfl
              have hl0 : L 2 = true := hdep ⟨2, .data⟩ (by simp) rfl
              simp only [fill, slotOf, List.size_toArray, List.length_cons, List.length_nil, Nat.reduceAdd, List.getElem?_toArray, List.getElem?_cons_zero, List.getElem?_cons_succ, Option.bind_some, Act.put, List.setIfInBounds_toArray, List.set_cons_zero, List.set_cons_succ] at hK ⊢
              simp only [Region.wanted]
              refine IB.store (i := 5) hI (by decide) (by decide) hlj hl0 (by kernel_rfl) (by simp [Value.oneCell']) (.tmp 9) (.tmp 40) rfl rfl rfl (fun w2 h2 => hK undef w2 h2 _ rfl)
          · intro L V w5 hI hall
            obtain ⟨p7, hp7, hg7, k7⟩ := IB.done hI hall 3 (by decide) (by decide)
            obtain ⟨p8, hp8, hg8, k8⟩ := IB.done hI hall 4 (by decide) (by decide)
            obtain ⟨p9, hp9, hg9, k9⟩ := IB.done hI hall 5 (by decide) (by decide)
            have n78 : p7 ≠ p8 := IB.two hI hall 3 4 (by decide) (by decide) (by decide) hp7 hp8
            have n79 : p7 ≠ p9 := IB.two hI hall 3 5 (by decide) (by decide) (by decide) hp7 hp9
            have n89 : p8 ≠ p9 := IB.two hI hall 4 5 (by decide) (by decide) (by decide) hp8 hp9
            have HB5 := Lib.hid (HB4.out.trans (hI.below.mono HB4.out.size))
            have HG := Lib.hid (And.intro hg7 (And.intro hg8 hg9))
            have Gp7_0 := Lib.hid k7
            have Gp8_0 := Lib.hid k8
            have Gp9_0 := Lib.hid k9
            simp only [fill, slotOf, List.size_toArray, List.length_cons, List.length_nil, Nat.reduceAdd, List.getElem?_toArray, List.getElem?_cons_zero, List.getElem?_cons_succ, Option.bind_some, Act.put, List.setIfInBounds_toArray, List.set_cons_zero, List.set_cons_succ]
            rw [hp7, hp8, hp9]
            clear hI hall hp7 hp8 hp9 hg7 hg8 hg9 k7 k8 k9 q0 q1 q2 q3 q4
            have a0 : w5.cell? ⟨p7, 3, none⟩ = some (.int .i64 lim) := cell_blk Gp7_0.out rfl
            have b0 := fro_blk Gp7_0.out 3
            have Gp7_1 := Lib.hid (show (w5.setCell ⟨p7, 3, none⟩ (.int .i64 0)).heap[p7]? = some (.cells #[.int .i64 fr, .int .i64 tu, .slice a n c, .int .i64 0, .bool tx] 59 (0, 0)) from by rw [heap_set Gp7_0.out 3]; rfl)
            have Gp8_1 := Lib.hid (show (w5.setCell ⟨p7, 3, none⟩ (.int .i64 0)).heap[p8]? = some (.cells #[.int .i64 fr, .int .i64 tu, .slice a n c, .int .i64 lim, .bool tx] 59 (0, 0)) from by rw [heap_setCell_other w5 ⟨p7, 3, none⟩ p8 _ (fun e => n78.symm (by simpa using e))]; exact Gp8_0.out)
            have Gp9_1 := Lib.hid (show (w5.setCell ⟨p7, 3, none⟩ (.int .i64 0)).heap[p9]? = some (.cells #[.int .i64 fr, .int .i64 tu, .slice a n c, .int .i64 lim, .bool tx] 59 (0, 0)) from by rw [heap_setCell_other w5 ⟨p7, 3, none⟩ p9 _ (fun e => n79.symm (by simpa using e))]; exact Gp9_0.out)
            have a1 : (w5.setCell ⟨p7, 3, none⟩ (.int .i64 0)).cell? ⟨p8, 3, none⟩ = some (.int .i64 lim) := cell_blk Gp8_1.out rfl
            have b1 := fro_blk Gp8_1.out 3
            have Gp7_2 := Lib.hid (show ((w5.setCell ⟨p7, 3, none⟩ (.int .i64 0)).setCell ⟨p8, 3, none⟩ (.int .i64 0)).heap[p7]? = some (.cells #[.int .i64 fr, .int .i64 tu, .slice a n c, .int .i64 0, .bool tx] 59 (0, 0)) from by rw [heap_setCell_other (w5.setCell ⟨p7, 3, none⟩ (.int .i64 0)) ⟨p8, 3, none⟩ p7 _ (fun e => n78 (by simpa using e))]; exact Gp7_1.out)
            have Gp8_2 := Lib.hid (show ((w5.setCell ⟨p7, 3, none⟩ (.int .i64 0)).setCell ⟨p8, 3, none⟩ (.int .i64 0)).heap[p8]? = some (.cells #[.int .i64 fr, .int .i64 tu, .slice a n c, .int .i64 0, .bool tx] 59 (0, 0)) from by rw [heap_set Gp8_1.out 3]; rfl)
            have Gp9_2 := Lib.hid (show ((w5.setCell ⟨p7, 3, none⟩ (.int .i64 0)).setCell ⟨p8, 3, none⟩ (.int .i64 0)).heap[p9]? = some (.cells #[.int .i64 fr, .int .i64 tu, .slice a n c, .int .i64 lim, .bool tx] 59 (0, 0)) from by rw [heap_setCell_other (w5.setCell ⟨p7, 3, none⟩ (.int .i64 0)) ⟨p8, 3, none⟩ p9 _ (fun e => n89.symm (by simpa using e))]; exact Gp9_1.out)
            have a2 : ((w5.setCell ⟨p7, 3, none⟩ (.int .i64 0)).setCell ⟨p8, 3, none⟩ (.int .i64 0)).cell? ⟨p9, 3, none⟩ = some (.int .i64 lim) := cell_blk Gp9_2.out rfl
            have b2 := fro_blk Gp9_2.out 3
            have Gp7_3 := Lib.hid (show (((w5.setCell ⟨p7, 3, none⟩ (.int .i64 0)).setCell ⟨p8, 3, none⟩ (.int .i64 0)).setCell ⟨p9, 3, none⟩ (.int .i64 0)).heap[p7]? = some (.cells #[.int .i64 fr, .int .i64 tu, .slice a n c, .int .i64 0, .bool tx] 59 (0, 0)) from by rw [heap_setCell_other ((w5.setCell ⟨p7, 3, none⟩ (.int .i64 0)).setCell ⟨p8, 3, none⟩ (.int .i64 0)) ⟨p9, 3, none⟩ p7 _ (fun e => n79 (by simpa using e))]; exact Gp7_2.out)
            have Gp8_3 := Lib.hid (show (((w5.setCell ⟨p7, 3, none⟩ (.int .i64 0)).setCell ⟨p8, 3, none⟩ (.int .i64 0)).setCell ⟨p9, 3, none⟩ (.int .i64 0)).heap[p8]? = some (.cells #[.int .i64 fr, .int .i64 tu, .slice a n c, .int .i64 0, .bool tx] 59 (0, 0)) from by rw [heap_setCell_other ((w5.setCell ⟨p7, 3, none⟩ (.int .i64 0)).setCell ⟨p8, 3, none⟩ (.int .i64 0)) ⟨p9, 3, none⟩ p8 _ (fun e => n89 (by simpa using e))]; exact Gp8_2.out)
            have Gp9_3 := Lib.hid (show (((w5.setCell ⟨p7, 3, none⟩ (.int .i64 0)).setCell ⟨p8, 3, none⟩ (.int .i64 0)).setCell ⟨p9, 3, none⟩ (.int .i64 0)).heap[p9]? = some (.cells #[.int .i64 fr, .int .i64 tu, .slice a n c, .int .i64 0, .bool tx] 59 (0, 0)) from by rw [heap_set Gp9_2.out 3]; rfl)
            have a3 : (((w5.setCell ⟨p7, 3, none⟩ (.int .i64 0)).setCell ⟨p8, 3, none⟩ (.int .i64 0)).setCell ⟨p9, 3, none⟩ (.int .i64 0)).cell? ⟨p8, 1, none⟩ = some (.int .i64 tu) := cell_blk Gp8_3.out rfl
            have b3 := fro_blk Gp8_3.out 1
            have Gp7_4 := Lib.hid (show ((((w5.setCell ⟨p7, 3, none⟩ (.int .i64 0)).setCell ⟨p8, 3, none⟩ (.int .i64 0)).setCell ⟨p9, 3, none⟩ (.int .i64 0)).setCell ⟨p8, 1, none⟩ (.int .i64 cut)).heap[p7]? = some (.cells #[.int .i64 fr, .int .i64 tu, .slice a n c, .int .i64 0, .bool tx] 59 (0, 0)) from by rw [heap_setCell_other (((w5.setCell ⟨p7, 3, none⟩ (.int .i64 0)).setCell ⟨p8, 3, none⟩ (.int .i64 0)).setCell ⟨p9, 3, none⟩ (.int .i64 0)) ⟨p8, 1, none⟩ p7 _ (fun e => n78 (by simpa using e))]; exact Gp7_3.out)
            have Gp8_4 := Lib.hid (show ((((w5.setCell ⟨p7, 3, none⟩ (.int .i64 0)).setCell ⟨p8, 3, none⟩ (.int .i64 0)).setCell ⟨p9, 3, none⟩ (.int .i64 0)).setCell ⟨p8, 1, none⟩ (.int .i64 cut)).heap[p8]? = some (.cells #[.int .i64 fr, .int .i64 cut, .slice a n c, .int .i64 0, .bool tx] 59 (0, 0)) from by rw [heap_set Gp8_3.out 1]; rfl)
            have Gp9_4 := Lib.hid (show ((((w5.setCell ⟨p7, 3, none⟩ (.int .i64 0)).setCell ⟨p8, 3, none⟩ (.int .i64 0)).setCell ⟨p9, 3, none⟩ (.int .i64 0)).setCell ⟨p8, 1, none⟩ (.int .i64 cut)).heap[p9]? = some (.cells #[.int .i64 fr, .int .i64 tu, .slice a n c, .int .i64 0, .bool tx] 59 (0, 0)) from by rw [heap_setCell_other (((w5.setCell ⟨p7, 3, none⟩ (.int .i64 0)).setCell ⟨p8, 3, none⟩ (.int .i64 0)).setCell ⟨p9, 3, none⟩ (.int .i64 0)) ⟨p8, 1, none⟩ p9 _ (fun e => n89.symm (by simpa using e))]; exact Gp9_3.out)
            have a4 : ((((w5.setCell ⟨p7, 3, none⟩ (.int .i64 0)).setCell ⟨p8, 3, none⟩ (.int .i64 0)).setCell ⟨p9, 3, none⟩ (.int .i64 0)).setCell ⟨p8, 1, none⟩ (.int .i64 cut)).cell? ⟨p9, 0, none⟩ = some (.int .i64 fr) := cell_blk Gp9_4.out rfl
            have b4 := fro_blk Gp9_4.out 0
            have Gp7_5 := Lib.hid (show (((((w5.setCell ⟨p7, 3, none⟩ (.int .i64 0)).setCell ⟨p8, 3, none⟩ (.int .i64 0)).setCell ⟨p9, 3, none⟩ (.int .i64 0)).setCell ⟨p8, 1, none⟩ (.int .i64 cut)).setCell ⟨p9, 0, none⟩ (.int .i64 cut)).heap[p7]? = some (.cells #[.int .i64 fr, .int .i64 tu, .slice a n c, .int .i64 0, .bool tx] 59 (0, 0)) from by rw [heap_setCell_other ((((w5.setCell ⟨p7, 3, none⟩ (.int .i64 0)).setCell ⟨p8, 3, none⟩ (.int .i64 0)).setCell ⟨p9, 3, none⟩ (.int .i64 0)).setCell ⟨p8, 1, none⟩ (.int .i64 cut)) ⟨p9, 0, none⟩ p7 _ (fun e => n79 (by simpa using e))]; exact Gp7_4.out)
            have Gp8_5 := Lib.hid (show (((((w5.setCell ⟨p7, 3, none⟩ (.int .i64 0)).setCell ⟨p8, 3, none⟩ (.int .i64 0)).setCell ⟨p9, 3, none⟩ (.int .i64 0)).setCell ⟨p8, 1, none⟩ (.int .i64 cut)).setCell ⟨p9, 0, none⟩ (.int .i64 cut)).heap[p8]? = some (.cells #[.int .i64 fr, .int .i64 cut, .slice a n c, .int .i64 0, .bool tx] 59 (0, 0)) from by rw [heap_setCell_other ((((w5.setCell ⟨p7, 3, none⟩ (.int .i64 0)).setCell ⟨p8, 3, none⟩ (.int .i64 0)).setCell ⟨p9, 3, none⟩ (.int .i64 0)).setCell ⟨p8, 1, none⟩ (.int .i64 cut)) ⟨p9, 0, none⟩ p8 _ (fun e => n89 (by simpa using e))]; exact Gp8_4.out)
            have Gp9_5 := Lib.hid (show (((((w5.setCell ⟨p7, 3, none⟩ (.int .i64 0)).setCell ⟨p8, 3, none⟩ (.int .i64 0)).setCell ⟨p9, 3, none⟩ (.int .i64 0)).setCell ⟨p8, 1, none⟩ (.int .i64 cut)).setCell ⟨p9, 0, none⟩ (.int .i64 cut)).heap[p9]? = some (.cells #[.int .i64 cut, .int .i64 tu, .slice a n c, .int .i64 0, .bool tx] 59 (0, 0)) from by rw [heap_set Gp9_4.out 0]; rfl)
            have HBE := Lib.hid (show Below w1.heap.size w1 (((((w5.setCell ⟨p7, 3, none⟩ (.int .i64 0)).setCell ⟨p8, 3, none⟩ (.int .i64 0)).setCell ⟨p9, 3, none⟩ (.int .i64 0)).setCell ⟨p8, 1, none⟩ (.int .i64 cut)).setCell ⟨p9, 0, none⟩ (.int .i64 cut)) from by
              have hs := HB4.out.size
              have g := HG.out
              exact ((((HB5.out.setCell (p := ⟨p7, 3, none⟩) (Nat.le_trans hs g.1) _).setCell (p := ⟨p8, 3, none⟩) (Nat.le_trans hs g.2.1) _).setCell (p := ⟨p9, 3, none⟩) (Nat.le_trans hs g.2.2) _).setCell (p := ⟨p8, 1, none⟩) (Nat.le_trans hs g.2.1) _).setCell (p := ⟨p9, 0, none⟩) (Nat.le_trans hs g.2.2) _)
            obtain ⟨wE, hwE⟩ : ∃ wE, wE = (((((w5.setCell ⟨p7, 3, none⟩ (.int .i64 0)).setCell ⟨p8, 3, none⟩ (.int .i64 0)).setCell ⟨p9, 3, none⟩ (.int .i64 0)).setCell ⟨p8, 1, none⟩ (.int .i64 cut)).setCell ⟨p9, 0, none⟩ (.int .i64 cut)) := ⟨_, rfl⟩
            rw [← hwE] at Gp7_5 Gp8_5 Gp9_5 HBE
            have HWE := Lib.hid hwE
            clear hwE Gp7_0 Gp7_1 Gp7_2 Gp7_3 Gp7_4 Gp8_0 Gp8_1 Gp8_2 Gp8_3 Gp8_4 Gp9_0 Gp9_1 Gp9_2 Gp9_3 Gp9_4 n78 n79 n89
            go_upto_region 6 with fail
            rw [← HWE.out]
            clear a0 b0 a1 b1 a2 b2 a3 b3 a4 b4
            have HBW := HBE
            have HBC := Lib.hid (Below.refl wE.heap.size wE).drew
            have K7 := Lib.hid (And.intro (Array.getElem?_eq_some_iff.1 Gp7_5.out).1 Gp7_5.out)
            have K8 := Lib.hid (And.intro (Array.getElem?_eq_some_iff.1 Gp8_5.out).1 Gp8_5.out)
            have K9 := Lib.hid (And.intro (Array.getElem?_eq_some_iff.1 Gp9_5.out).1 Gp9_5.out)
            have HQP := Lib.hid (show ∀ w', Below wE.heap.size wE w' → (w'.cell? ⟨w.heap.size, 0, none⟩ = some (.int .i64 fr) ∧ w'.cell? ⟨w.heap.size, 1, none⟩ = some (.int .i64 tu) ∧ w'.cell? ⟨w.heap.size, 2, none⟩ = some (.slice a n c) ∧ w'.cell? ⟨w.heap.size, 3, none⟩ = some (.int .i64 lim) ∧ w'.cell? ⟨w.heap.size, 4, none⟩ = some (.bool tx) ∧ w'.cell? ⟨p7, 0, none⟩ = some (.int .i64 fr) ∧ w'.cell? ⟨p7, 1, none⟩ = some (.int .i64 tu) ∧ w'.cell? ⟨p7, 2, none⟩ = some (.slice a n c) ∧ w'.cell? ⟨p7, 3, none⟩ = some (.int .i64 0) ∧ w'.cell? ⟨p7, 4, none⟩ = some (.bool tx)) from fun w' hb => ⟨box_cell (HQ.out _ (HBW.out.trans (hb.mono HBW.out.size))) rfl, box_cell (HQ.out _ (HBW.out.trans (hb.mono HBW.out.size))) rfl, box_cell (HQ.out _ (HBW.out.trans (hb.mono HBW.out.size))) rfl, box_cell (HQ.out _ (HBW.out.trans (hb.mono HBW.out.size))) rfl, box_cell (HQ.out _ (HBW.out.trans (hb.mono HBW.out.size))) rfl, cell_blk ((hb.block _ K7.out.1).trans K7.out.2) rfl, cell_blk ((hb.block _ K7.out.1).trans K7.out.2) rfl, cell_blk ((hb.block _ K7.out.1).trans K7.out.2) rfl, cell_blk ((hb.block _ K7.out.1).trans K7.out.2) rfl, cell_blk ((hb.block _ K7.out.1).trans K7.out.2) rfl⟩)
            have q0 : wE.cell? ⟨w.heap.size, 0, none⟩ = some (.int .i64 fr) := box_cell (HQ.out wE HBW.out) rfl
            have q1 : wE.cell? ⟨w.heap.size, 1, none⟩ = some (.int .i64 tu) := box_cell (HQ.out wE HBW.out) rfl
            have q2 : wE.cell? ⟨w.heap.size, 2, none⟩ = some (.slice a n c) := box_cell (HQ.out wE HBW.out) rfl
            have q3 : wE.cell? ⟨w.heap.size, 3, none⟩ = some (.int .i64 lim) := box_cell (HQ.out wE HBW.out) rfl
            have q4 : wE.cell? ⟨w.heap.size, 4, none⟩ = some (.bool tx) := box_cell (HQ.out wE HBW.out) rfl
            have r0 : wE.cell? ⟨p7, 0, none⟩ = some (.int .i64 fr) := cell_blk (K7.out.2) rfl
            have r1 : wE.cell? ⟨p7, 1, none⟩ = some (.int .i64 tu) := cell_blk (K7.out.2) rfl
            have r2 : wE.cell? ⟨p7, 2, none⟩ = some (.slice a n c) := cell_blk (K7.out.2) rfl
            have r3 : wE.cell? ⟨p7, 3, none⟩ = some (.int .i64 0) := cell_blk (K7.out.2) rfl
            have r4 : wE.cell? ⟨p7, 4, none⟩ = some (.bool tx) := cell_blk (K7.out.2) rfl
            go_region_held3 (fun w' => w'.cell? ⟨w.heap.size, 0, none⟩ = some (.int .i64 fr) ∧ w'.cell? ⟨w.heap.size, 1, none⟩ = some (.int .i64 tu) ∧ w'.cell? ⟨w.heap.size, 2, none⟩ = some (.slice a n c) ∧ w'.cell? ⟨w.heap.size, 3, none⟩ = some (.int .i64 lim) ∧ w'.cell? ⟨w.heap.size, 4, none⟩ = some (.bool tx) ∧ w'.cell? ⟨p7, 0, none⟩ = some (.int .i64 fr) ∧ w'.cell? ⟨p7, 1, none⟩ = some (.int .i64 tu) ∧ w'.cell? ⟨p7, 2, none⟩ = some (.slice a n c) ∧ w'.cell? ⟨p7, 3, none⟩ = some (.int .i64 0) ∧ w'.cell? ⟨p7, 4, none⟩ = some (.bool tx)) (first | exact HQP.out _ HBC.out | go_keep) (first | (go_at_call 41; refine (answer_any (HM.out.keep (HBW.out.trans (HBC.out.mono HBW.out.size)) (Nat.le_refl _)) (HR.out.kept (HBW.out.trans (HBC.out.mono HBW.out.size))) (by omega)).mono ?_; rintro e w3 ⟨aZ, nZ, cZ, rsZ, rfl, hatZ, hsZ, hnZ, hfZ, hbq⟩; have HBC := Lib.hid (HBC.out.trans (hbq.mono HBC.out.size)); (try (have HATW := Lib.hid (HATW.out.kept hbq))); (try (have HATS := Lib.hid (HATS.out.kept hbq))); first | (have HSW := Lib.hid (show rsZ.map RowV.says = ansS (⟨fr, tu, ms, 0, tx⟩ : QP) (l.map RowV.says) from by with_reducible exact hsZ); have HATW := Lib.hid hatZ; have HNW := Lib.hid hnZ; have HFUW := Lib.hid hfZ; clear hatZ hsZ hnZ hfZ; obtain ⟨aW, hEa⟩ : ∃ x, x = aZ := ⟨_, rfl⟩; subst hEa; obtain ⟨nW, hEn⟩ : ∃ x, x = nZ := ⟨_, rfl⟩; subst hEn; obtain ⟨cW, hEc⟩ : ∃ x, x = cZ := ⟨_, rfl⟩; subst hEc; obtain ⟨rsW, hErs⟩ : ∃ x, x = rsZ := ⟨_, rfl⟩; subst hErs) | (have HSS := Lib.hid (show rsZ.map RowV.says = ansS (⟨fr, tu, ms, lim, tx⟩ : QP) (l.map RowV.says) from by with_reducible exact hsZ); have HATS := Lib.hid hatZ; have HNS := Lib.hid hnZ; have HFUS := Lib.hid hfZ; clear hatZ hsZ hnZ hfZ; obtain ⟨aS, hEa⟩ : ∃ x, x = aZ := ⟨_, rfl⟩; subst hEa; obtain ⟨nS, hEn⟩ : ∃ x, x = nZ := ⟨_, rfl⟩; subst hEn; obtain ⟨cS, hEc⟩ : ∃ x, x = cZ := ⟨_, rfl⟩; subst hEc; obtain ⟨rsS, hErs⟩ : ∃ x, x = rsZ := ⟨_, rfl⟩; subst hErs)))
            all_goals
              have HB6 := Lib.hid (HBW.out.trans (HBC.out.mono HBW.out.size))
              have HB6E := HBC
              obtain ⟨gW, haW, hcW⟩ := HFUW.out (show qRight (⟨fr, tu, ms, 0, tx⟩ : QP) = true from by
                have h := qRight_iff.1 HQR.out
                exact qRight_iff.2 ⟨⟨h.1.1, h.1.2.1, h.1.2.2.1, h.1.2.2.2.1, (show (0 : Int) ≤ 0 from by decide), (show (0 : Int) ≤ 2048 from by decide)⟩, h.2⟩) (Int.lt_irrefl 0)
              subst haW
              subst hcW
              have q3 := box_cell (i := 3) (v := .int .i64 lim) (HQ.out _ HB6.out) rfl
              have hAL := ans_lim HQR.out (l.map RowV.says)
              simp only at hAL
              rw [← HSS.out, ← HSW.out] at hAL
              have hlW := HATW.out.len
              have hlS := HATS.out.len
              have hnW := HNW.out
              have hnS := HNS.out
              clear HBC r0 r1 r2 r3 r4 q0 q1 q2 q4
              by_cases hlim : 0 < lim
              · rw [if_pos hlim] at hAL
                obtain ⟨m, hm⟩ := Int.eq_ofNat_of_zero_le (Int.le_of_lt hlim)
                subst hm
                have hl1 := congrArg List.length hAL
                rw [List.length_map, List.length_take, List.length_map, hlW, hlS, show ((m : Nat) : Int).toNat = m from rfl] at hl1
                have hle : nS ≤ cW := by omega
                have HSAME := Lib.hid (show sameRs rsS (rsW.take nS) = true from sameRs_says (by
                  rw [List.map_take, hAL, show ((m : Nat) : Int).toNat = m from rfl]
                  by_cases hmn : m ≤ cW
                  · rw [show nS = m by omega]
                  · rw [List.take_of_length_le (by rw [List.length_map, hlW]; omega), List.take_of_length_le (by rw [List.length_map, hlW]; omega)]))
                have c1 : ¬ (cW : Int) < (nS : Int) := by omega
                have hm0 : 0 < m := by omega
                have hnsi : (nS : Int) ≤ (cW : Int) := by omega
                have z : ((nS : Int) != min (m : Int) (cW : Int)) = false := by rw [show (nS : Int) = min (m : Int) (cW : Int) by omega]; simp
                clear hAL hl1 hlW hlS
                go_wp2_with fail
                refine (samerows_any HATS.out (HATW.out.front (m := nS) hle)).mono ?_
                rintro e w7 ⟨he, hb7⟩
                rw [HSAME.out] at he
                subst he
                have HATW7 := Lib.hid (HATW.out.kept hb7)
                have HB7 := Lib.hid (HB6.out.trans (hb7.mono HB6.out.size))
                have hb6e := HB6E.out
                have K8' := Lib.hid (show p8 < w7.heap.size ∧ w7.heap[p8]? = _ from ⟨Nat.lt_of_lt_of_le K8.out.1 (Nat.le_trans hb6e.size hb7.size), (hb7.block _ (Nat.lt_of_lt_of_le K8.out.1 hb6e.size)).trans ((hb6e.block _ K8.out.1).trans K8.out.2)⟩)
                have K9' := Lib.hid (show p9 < w7.heap.size ∧ w7.heap[p9]? = _ from ⟨Nat.lt_of_lt_of_le K9.out.1 (Nat.le_trans hb6e.size hb7.size), (hb7.block _ (Nat.lt_of_lt_of_le K9.out.1 hb6e.size)).trans ((hb6e.block _ K9.out.1).trans K9.out.2)⟩)
                have HQP9 := Lib.hid (show ∀ w', Below w7.heap.size w7 w' → (w'.cell? ⟨p8, 0, none⟩ = some (.int .i64 fr) ∧ w'.cell? ⟨p8, 1, none⟩ = some (.int .i64 cut) ∧ w'.cell? ⟨p8, 2, none⟩ = some (.slice a n c) ∧ w'.cell? ⟨p8, 3, none⟩ = some (.int .i64 0) ∧ w'.cell? ⟨p8, 4, none⟩ = some (.bool tx) ∧ w'.cell? ⟨p9, 0, none⟩ = some (.int .i64 cut) ∧ w'.cell? ⟨p9, 1, none⟩ = some (.int .i64 tu) ∧ w'.cell? ⟨p9, 2, none⟩ = some (.slice a n c) ∧ w'.cell? ⟨p9, 3, none⟩ = some (.int .i64 0) ∧ w'.cell? ⟨p9, 4, none⟩ = some (.bool tx)) from fun w' hb => ⟨cell_blk ((hb.block _ K8'.out.1).trans K8'.out.2) rfl, cell_blk ((hb.block _ K8'.out.1).trans K8'.out.2) rfl, cell_blk ((hb.block _ K8'.out.1).trans K8'.out.2) rfl, cell_blk ((hb.block _ K8'.out.1).trans K8'.out.2) rfl, cell_blk ((hb.block _ K8'.out.1).trans K8'.out.2) rfl, cell_blk ((hb.block _ K9'.out.1).trans K9'.out.2) rfl, cell_blk ((hb.block _ K9'.out.1).trans K9'.out.2) rfl, cell_blk ((hb.block _ K9'.out.1).trans K9'.out.2) rfl, cell_blk ((hb.block _ K9'.out.1).trans K9'.out.2) rfl, cell_blk ((hb.block _ K9'.out.1).trans K9'.out.2) rfl⟩)
                have hfc : fr ≤ cut := by omega
                have hct : cut ≤ tu := by omega
                have HRA := Lib.hid (show qRight (⟨fr, cut, ms, 0, tx⟩ : QP) = true from by
                  have h := qRight_iff.1 HQR.out
                  have h3 := h.1.2.2.1
                  simp only at h3
                  exact qRight_iff.2 ⟨⟨h.1.1, hfc, (show cut ≤ 1099511627776 from by omega), h.1.2.2.2.1, (show (0 : Int) ≤ 0 from by decide), (show (0 : Int) ≤ 2048 from by decide)⟩, h.2⟩)
                have HBW := HB7
                have HBC := Lib.hid (Below.refl w7.heap.size w7).drew
                clear hb7 hb6e HB6 HB6E HATS HATW HSAME HSS HNS HFUS q3
                have s0 : w7.cell? ⟨p8, 0, none⟩ = some (.int .i64 fr) := cell_blk (K8'.out.2) rfl
                have s1 : w7.cell? ⟨p8, 1, none⟩ = some (.int .i64 cut) := cell_blk (K8'.out.2) rfl
                have s2 : w7.cell? ⟨p8, 2, none⟩ = some (.slice a n c) := cell_blk (K8'.out.2) rfl
                have s3 : w7.cell? ⟨p8, 3, none⟩ = some (.int .i64 0) := cell_blk (K8'.out.2) rfl
                have s4 : w7.cell? ⟨p8, 4, none⟩ = some (.bool tx) := cell_blk (K8'.out.2) rfl
                have t0 : w7.cell? ⟨p9, 0, none⟩ = some (.int .i64 cut) := cell_blk (K9'.out.2) rfl
                have t1 : w7.cell? ⟨p9, 1, none⟩ = some (.int .i64 tu) := cell_blk (K9'.out.2) rfl
                have t2 : w7.cell? ⟨p9, 2, none⟩ = some (.slice a n c) := cell_blk (K9'.out.2) rfl
                have t3 : w7.cell? ⟨p9, 3, none⟩ = some (.int .i64 0) := cell_blk (K9'.out.2) rfl
                have t4 : w7.cell? ⟨p9, 4, none⟩ = some (.bool tx) := cell_blk (K9'.out.2) rfl
                go_wp2_with fail
                go_region_held3 (fun w' => w'.cell? ⟨p8, 0, none⟩ = some (.int .i64 fr) ∧ w'.cell? ⟨p8, 1, none⟩ = some (.int .i64 cut) ∧ w'.cell? ⟨p8, 2, none⟩ = some (.slice a n c) ∧ w'.cell? ⟨p8, 3, none⟩ = some (.int .i64 0) ∧ w'.cell? ⟨p8, 4, none⟩ = some (.bool tx) ∧ w'.cell? ⟨p9, 0, none⟩ = some (.int .i64 cut) ∧ w'.cell? ⟨p9, 1, none⟩ = some (.int .i64 tu) ∧ w'.cell? ⟨p9, 2, none⟩ = some (.slice a n c) ∧ w'.cell? ⟨p9, 3, none⟩ = some (.int .i64 0) ∧ w'.cell? ⟨p9, 4, none⟩ = some (.bool tx)) (first | exact HQP9.out _ HBC.out | go_keep) (first | (go_at_call 41; refine (answer_any (HM.out.keep (HBW.out.trans (HBC.out.mono HBW.out.size)) (Nat.le_refl _)) (HR.out.kept (HBW.out.trans (HBC.out.mono HBW.out.size))) (by omega)).mono ?_; rintro e w3 ⟨aZ, nZ, cZ, rsZ, rfl, hatZ, hsZ, hnZ, hfZ, hbq⟩; have HBC := Lib.hid (HBC.out.trans (hbq.mono HBC.out.size)); (try (have HATA := Lib.hid (HATA.out.kept hbq))); (try (have HATB := Lib.hid (HATB.out.kept hbq))); first | (have HSA := Lib.hid (show rsZ.map RowV.says = ansS (⟨fr, cut, ms, 0, tx⟩ : QP) (l.map RowV.says) from by with_reducible exact hsZ); have HATA := Lib.hid hatZ; have HNA := Lib.hid hnZ; have HFUA := Lib.hid hfZ; clear hatZ hsZ hnZ hfZ; obtain ⟨aA, hEa⟩ : ∃ x, x = aZ := ⟨_, rfl⟩; subst hEa; obtain ⟨nA, hEn⟩ : ∃ x, x = nZ := ⟨_, rfl⟩; subst hEn; obtain ⟨cA, hEc⟩ : ∃ x, x = cZ := ⟨_, rfl⟩; subst hEc; obtain ⟨rsA, hErs⟩ : ∃ x, x = rsZ := ⟨_, rfl⟩; subst hErs) | (have HSB := Lib.hid (show rsZ.map RowV.says = ansS (⟨cut, tu, ms, 0, tx⟩ : QP) (l.map RowV.says) from by with_reducible exact hsZ); have HATB := Lib.hid hatZ; have HNB := Lib.hid hnZ; have HFUB := Lib.hid hfZ; clear hatZ hsZ hnZ hfZ; obtain ⟨aB, hEa⟩ : ∃ x, x = aZ := ⟨_, rfl⟩; subst hEa; obtain ⟨nB, hEn⟩ : ∃ x, x = nZ := ⟨_, rfl⟩; subst hEn; obtain ⟨cB, hEc⟩ : ∃ x, x = cZ := ⟨_, rfl⟩; subst hEc; obtain ⟨rsB, hErs⟩ : ∃ x, x = rsZ := ⟨_, rfl⟩; subst hErs)) | (obtain ⟨gA, haA, hcA⟩ := HFUA.out HRA.out (Int.lt_irrefl 0); subst haA; subst hcA; refine step_append_rows_full rfl (.tmp 85) (.tmp 88) rfl rfl rfl HATA.out HATB.out (by have h1 := HNA.out; have h2 := HNB.out; omega) ?_; intro aC cC w3 hatC hbq; have HBC := Lib.hid (HBC.out.trans (hbq.mono HBC.out.size)); have HATC := Lib.hid hatC; clear hatC) | (go_at_call 31; refine (samerows_any HATC.out (HATW7.out.kept HBC.out)).mono ?_; rintro e w3 ⟨he, hbq⟩; have HBC := Lib.hid (HBC.out.trans (hbq.mono HBC.out.size)); rw [show sameRs (rsA ++ rsB) rsW = true from sameRs_says (by rw [List.map_append, HSA.out, HSB.out, HSW.out]; exact ans_two HQR.out hfc hct _)] at he; subst he))
                all_goals
                  have HBZ := Lib.hid (HB1.out.trans ((HBW.out.trans (HBC.out.mono HBW.out.size)).mono HB1.out.size))
                  clear HBC HBW
                  go_wp2_with fail
                  go_ret
                  exact ⟨rfl, HBZ.out⟩
              · rw [if_neg hlim] at hAL
                have hl1 := congrArg List.length hAL
                rw [List.length_map, List.length_map, hlW, hlS] at hl1
                have hle : nS ≤ cW := by omega
                have HSAME := Lib.hid (show sameRs rsS (rsW.take nS) = true from sameRs_says (by
                  rw [List.map_take, hAL, List.take_of_length_le (by rw [List.length_map, hlW]; omega)]))
                have c1 : ¬ (cW : Int) < (nS : Int) := by omega
                have hnsi : (nS : Int) ≤ (cW : Int) := by omega
                clear hAL hl1 hlW hlS
                go_wp2_with fail
                refine (samerows_any HATS.out (HATW.out.front (m := nS) hle)).mono ?_
                rintro e w7 ⟨he, hb7⟩
                rw [HSAME.out] at he
                subst he
                have HATW7 := Lib.hid (HATW.out.kept hb7)
                have HB7 := Lib.hid (HB6.out.trans (hb7.mono HB6.out.size))
                have hb6e := HB6E.out
                have K8' := Lib.hid (show p8 < w7.heap.size ∧ w7.heap[p8]? = _ from ⟨Nat.lt_of_lt_of_le K8.out.1 (Nat.le_trans hb6e.size hb7.size), (hb7.block _ (Nat.lt_of_lt_of_le K8.out.1 hb6e.size)).trans ((hb6e.block _ K8.out.1).trans K8.out.2)⟩)
                have K9' := Lib.hid (show p9 < w7.heap.size ∧ w7.heap[p9]? = _ from ⟨Nat.lt_of_lt_of_le K9.out.1 (Nat.le_trans hb6e.size hb7.size), (hb7.block _ (Nat.lt_of_lt_of_le K9.out.1 hb6e.size)).trans ((hb6e.block _ K9.out.1).trans K9.out.2)⟩)
                have HQP9 := Lib.hid (show ∀ w', Below w7.heap.size w7 w' → (w'.cell? ⟨p8, 0, none⟩ = some (.int .i64 fr) ∧ w'.cell? ⟨p8, 1, none⟩ = some (.int .i64 cut) ∧ w'.cell? ⟨p8, 2, none⟩ = some (.slice a n c) ∧ w'.cell? ⟨p8, 3, none⟩ = some (.int .i64 0) ∧ w'.cell? ⟨p8, 4, none⟩ = some (.bool tx) ∧ w'.cell? ⟨p9, 0, none⟩ = some (.int .i64 cut) ∧ w'.cell? ⟨p9, 1, none⟩ = some (.int .i64 tu) ∧ w'.cell? ⟨p9, 2, none⟩ = some (.slice a n c) ∧ w'.cell? ⟨p9, 3, none⟩ = some (.int .i64 0) ∧ w'.cell? ⟨p9, 4, none⟩ = some (.bool tx)) from fun w' hb => ⟨cell_blk ((hb.block _ K8'.out.1).trans K8'.out.2) rfl, cell_blk ((hb.block _ K8'.out.1).trans K8'.out.2) rfl, cell_blk ((hb.block _ K8'.out.1).trans K8'.out.2) rfl, cell_blk ((hb.block _ K8'.out.1).trans K8'.out.2) rfl, cell_blk ((hb.block _ K8'.out.1).trans K8'.out.2) rfl, cell_blk ((hb.block _ K9'.out.1).trans K9'.out.2) rfl, cell_blk ((hb.block _ K9'.out.1).trans K9'.out.2) rfl, cell_blk ((hb.block _ K9'.out.1).trans K9'.out.2) rfl, cell_blk ((hb.block _ K9'.out.1).trans K9'.out.2) rfl, cell_blk ((hb.block _ K9'.out.1).trans K9'.out.2) rfl⟩)
                have hfc : fr ≤ cut := by omega
                have hct : cut ≤ tu := by omega
                have HRA := Lib.hid (show qRight (⟨fr, cut, ms, 0, tx⟩ : QP) = true from by
                  have h := qRight_iff.1 HQR.out
                  have h3 := h.1.2.2.1
                  simp only at h3
                  exact qRight_iff.2 ⟨⟨h.1.1, hfc, (show cut ≤ 1099511627776 from by omega), h.1.2.2.2.1, (show (0 : Int) ≤ 0 from by decide), (show (0 : Int) ≤ 2048 from by decide)⟩, h.2⟩)
                have HBW := HB7
                have HBC := Lib.hid (Below.refl w7.heap.size w7).drew
                clear hb7 hb6e HB6 HB6E HATS HATW HSAME HSS HNS HFUS q3
                have s0 : w7.cell? ⟨p8, 0, none⟩ = some (.int .i64 fr) := cell_blk (K8'.out.2) rfl
                have s1 : w7.cell? ⟨p8, 1, none⟩ = some (.int .i64 cut) := cell_blk (K8'.out.2) rfl
                have s2 : w7.cell? ⟨p8, 2, none⟩ = some (.slice a n c) := cell_blk (K8'.out.2) rfl
                have s3 : w7.cell? ⟨p8, 3, none⟩ = some (.int .i64 0) := cell_blk (K8'.out.2) rfl
                have s4 : w7.cell? ⟨p8, 4, none⟩ = some (.bool tx) := cell_blk (K8'.out.2) rfl
                have t0 : w7.cell? ⟨p9, 0, none⟩ = some (.int .i64 cut) := cell_blk (K9'.out.2) rfl
                have t1 : w7.cell? ⟨p9, 1, none⟩ = some (.int .i64 tu) := cell_blk (K9'.out.2) rfl
                have t2 : w7.cell? ⟨p9, 2, none⟩ = some (.slice a n c) := cell_blk (K9'.out.2) rfl
                have t3 : w7.cell? ⟨p9, 3, none⟩ = some (.int .i64 0) := cell_blk (K9'.out.2) rfl
                have t4 : w7.cell? ⟨p9, 4, none⟩ = some (.bool tx) := cell_blk (K9'.out.2) rfl
                go_wp2_with fail
                go_region_held3 (fun w' => w'.cell? ⟨p8, 0, none⟩ = some (.int .i64 fr) ∧ w'.cell? ⟨p8, 1, none⟩ = some (.int .i64 cut) ∧ w'.cell? ⟨p8, 2, none⟩ = some (.slice a n c) ∧ w'.cell? ⟨p8, 3, none⟩ = some (.int .i64 0) ∧ w'.cell? ⟨p8, 4, none⟩ = some (.bool tx) ∧ w'.cell? ⟨p9, 0, none⟩ = some (.int .i64 cut) ∧ w'.cell? ⟨p9, 1, none⟩ = some (.int .i64 tu) ∧ w'.cell? ⟨p9, 2, none⟩ = some (.slice a n c) ∧ w'.cell? ⟨p9, 3, none⟩ = some (.int .i64 0) ∧ w'.cell? ⟨p9, 4, none⟩ = some (.bool tx)) (first | exact HQP9.out _ HBC.out | go_keep) (first | (go_at_call 41; refine (answer_any (HM.out.keep (HBW.out.trans (HBC.out.mono HBW.out.size)) (Nat.le_refl _)) (HR.out.kept (HBW.out.trans (HBC.out.mono HBW.out.size))) (by omega)).mono ?_; rintro e w3 ⟨aZ, nZ, cZ, rsZ, rfl, hatZ, hsZ, hnZ, hfZ, hbq⟩; have HBC := Lib.hid (HBC.out.trans (hbq.mono HBC.out.size)); (try (have HATA := Lib.hid (HATA.out.kept hbq))); (try (have HATB := Lib.hid (HATB.out.kept hbq))); first | (have HSA := Lib.hid (show rsZ.map RowV.says = ansS (⟨fr, cut, ms, 0, tx⟩ : QP) (l.map RowV.says) from by with_reducible exact hsZ); have HATA := Lib.hid hatZ; have HNA := Lib.hid hnZ; have HFUA := Lib.hid hfZ; clear hatZ hsZ hnZ hfZ; obtain ⟨aA, hEa⟩ : ∃ x, x = aZ := ⟨_, rfl⟩; subst hEa; obtain ⟨nA, hEn⟩ : ∃ x, x = nZ := ⟨_, rfl⟩; subst hEn; obtain ⟨cA, hEc⟩ : ∃ x, x = cZ := ⟨_, rfl⟩; subst hEc; obtain ⟨rsA, hErs⟩ : ∃ x, x = rsZ := ⟨_, rfl⟩; subst hErs) | (have HSB := Lib.hid (show rsZ.map RowV.says = ansS (⟨cut, tu, ms, 0, tx⟩ : QP) (l.map RowV.says) from by with_reducible exact hsZ); have HATB := Lib.hid hatZ; have HNB := Lib.hid hnZ; have HFUB := Lib.hid hfZ; clear hatZ hsZ hnZ hfZ; obtain ⟨aB, hEa⟩ : ∃ x, x = aZ := ⟨_, rfl⟩; subst hEa; obtain ⟨nB, hEn⟩ : ∃ x, x = nZ := ⟨_, rfl⟩; subst hEn; obtain ⟨cB, hEc⟩ : ∃ x, x = cZ := ⟨_, rfl⟩; subst hEc; obtain ⟨rsB, hErs⟩ : ∃ x, x = rsZ := ⟨_, rfl⟩; subst hErs)) | (obtain ⟨gA, haA, hcA⟩ := HFUA.out HRA.out (Int.lt_irrefl 0); subst haA; subst hcA; refine step_append_rows_full rfl (.tmp 85) (.tmp 88) rfl rfl rfl HATA.out HATB.out (by have h1 := HNA.out; have h2 := HNB.out; omega) ?_; intro aC cC w3 hatC hbq; have HBC := Lib.hid (HBC.out.trans (hbq.mono HBC.out.size)); have HATC := Lib.hid hatC; clear hatC) | (go_at_call 31; refine (samerows_any HATC.out (HATW7.out.kept HBC.out)).mono ?_; rintro e w3 ⟨he, hbq⟩; have HBC := Lib.hid (HBC.out.trans (hbq.mono HBC.out.size)); rw [show sameRs (rsA ++ rsB) rsW = true from sameRs_says (by rw [List.map_append, HSA.out, HSB.out, HSW.out]; exact ans_two HQR.out hfc hct _)] at he; subst he))
                all_goals
                  have HBZ := Lib.hid (HB1.out.trans ((HBW.out.trans (HBC.out.mono HBW.out.size)).mono HB1.out.size))
                  clear HBC HBW
                  go_wp2_with fail
                  go_ret
                  exact ⟨rfl, HBZ.out⟩
end Go.Proofs.Ytmnfdkclkjeggaa
