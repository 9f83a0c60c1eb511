/- Manifests: outdated, remaining, Mark of layer 13, walked. Written by genmfe.py. -/
import Derived.Test.YtmgimmbihcbkbaaGreatMfD
import Derived.Maps.Own
namespace Go.Proofs.YtmgimmbihcbkbaaGreat
open Go.RowKit LabPlain
set_option linter.unusedVariables false

set_option maxRecDepth 100000 in
set_option maxHeartbeats 4000000 in
theorem lookO_nil (x y z : Int) (f : Value) (w : World) :
    Calls Tryz.prog 49 #[.slice none 0 0, .agg #[.int .i64 x, .int .i64 y, .int .i64 z], f] w fun e w' => e = .returned (.tuple #[.agg #[.int .i64 0, .int .i64 0, .int .i64 0], .bool false]) ∧ Below w.heap.size w w' := by
  obtain ⟨wa, hwa⟩ : ∃ wa, wa = w.alloc (.cells #[.int .i64 x, .int .i64 y, .int .i64 z] 28) := ⟨_, rfl⟩
  obtain ⟨wb, hwb⟩ : ∃ wb, wb = wa.alloc (.cells #[.int .i64 0, .int .i64 0, .int .i64 0] 28) := ⟨_, rfl⟩
  have sa : wa.heap.size = w.heap.size + 1 := by rw [hwa]; exact Array.size_push _
  have sb : wb.heap.size = w.heap.size + 2 := by rw [hwb]; show (wa.heap.push _).size = _; rw [Array.size_push, sa]
  have ba : Below w.heap.size w wa := by rw [hwa]; exact (Below.refl _ _).alloc (Nat.le_refl _) _
  have bb : Below w.heap.size w wb := by rw [hwb]; exact ba.alloc ba.size _
  have gb : wb.heap[w.heap.size + 1]? = some (.cells #[.int .i64 0, .int .i64 0, .int .i64 0] 28 (0, 0)) := by rw [hwb, ← sa]; exact heap_alloc_new _ _
  have HBB := Lib.hid bb
  have HGB := Lib.hid gb
  have HSB := Lib.hid sb
  have hl5 : w.heap.size + 1 < wb.heap.size := by omega
  have HWB := Lib.hid (show (w.alloc (.cells #[.int .i64 x, .int .i64 y, .int .i64 z] 28)).alloc (.cells #[.int .i64 0, .int .i64 0, .int .i64 0] 28) = wb from by rw [hwb, hwa])
  have r0 : wb.cell? ⟨w.heap.size + 1, 0, none⟩ = some (.int .i64 0) := cell_blk gb rfl
  have r1 : wb.cell? ⟨w.heap.size + 1, 1, none⟩ = some (.int .i64 0) := cell_blk gb rfl
  have r2 : wb.cell? ⟨w.heap.size + 1, 2, none⟩ = some (.int .i64 0) := cell_blk gb rfl
  have f0 : wb.frozen? ⟨w.heap.size + 1, 0, none⟩ = false := fro_blk gb 0
  have f1 : wb.frozen? ⟨w.heap.size + 1, 1, none⟩ = false := fro_blk gb 1
  have f2 : wb.frozen? ⟨w.heap.size + 1, 2, none⟩ = false := fro_blk gb 2
  clear hwb hwa sa ba bb gb
  go_enter Tryz.func49, Tryz.ntmps49
  go_wp2_with fail
  rw [HWB.out]
  refine wp_loop_rounds 1 ?_
  rw [rounds_succ]
  go_wp2_with fail
  refine bodyPost_ret (ret_cell_tmp rfl _ _ (w.heap.size + 1) 28 #[.int .i64 0, .int .i64 0, .int .i64 0] _ _ rfl ((heap_alloc_old _ _ _ (by simpa using hl5)).trans (setO HGB.out 0 0 0)) Tryz.underlying28 rfl (by kernel_rfl)) rfl ?_
  exact ⟨rfl, (belowO HBB.out (by omega) 0 0 0).alloc (by simp; have := HSB.out; omega) _⟩

set_option maxRecDepth 100000 in
set_option maxHeartbeats 4000000 in
theorem mark_any {w : World} {s d hz : Int} {ea ma oa : Option Addr} {en ec mn mc on oc : Nat} {l : List (Int × Int)} (h : VecAt MarkS w ma mn mc l) (x : Int) :
    Calls Tryz.prog 8 #[.agg #[.int .i64 s, .int .i64 d, .int .i64 hz, .slice ea en ec, .slice ma mn mc, .slice oa on oc], .int .i64 x] w fun e w' => e = .returned (.int .i64 ((l.find? fun y => decide (y.1 = x)).getD (0, 0)).2) ∧ Below w.heap.size w w' := by
  obtain ⟨wa, hwa⟩ : ∃ wa, wa = w.alloc (.cells #[.int .i64 s, .int .i64 d, .int .i64 hz, .slice ea en ec, .slice ma mn mc, .slice oa on oc] 26) := ⟨_, rfl⟩
  have ba : Below w.heap.size w wa := by rw [hwa]; exact (Below.refl _ _).alloc (Nat.le_refl _) _
  have ga : wa.heap[w.heap.size]? = some (.cells #[.int .i64 s, .int .i64 d, .int .i64 hz, .slice ea en ec, .slice ma mn mc, .slice oa on oc] 26 (0, 0)) := by rw [hwa]; exact heap_alloc_new _ _
  have HLK := Lib.hid (lookM_any (h.kept ba) x 0)
  have HBA := Lib.hid ba
  have HWA := Lib.hid hwa
  have c4 : wa.cell? ⟨w.heap.size, 4, none⟩ = some (.slice ma mn mc) := cell_blk ga rfl
  clear hwa ba ga h
  go_enter Tryz.func8, Tryz.ntmps8
  go_wp2_with fail
  rw [← HWA.out]
  refine HLK.out.mono ?_
  rintro e w1 ⟨hl, hb⟩
  obtain ⟨r, hr⟩ : ∃ r, r = (l.find? fun y => decide (y.1 = x)).getD (0, 0) := ⟨_, rfl⟩
  obtain ⟨fd, hfd⟩ : ∃ fd, fd = (l.find? fun y => decide (y.1 = x)).isSome := ⟨_, rfl⟩
  obtain rfl : e = .returned (.tuple #[.agg #[.int .i64 r.1, .int .i64 r.2], .bool fd]) := by rw [hr, hfd]; exact hl
  have HR := Lib.hid hr
  have HB := Lib.hid (HBA.out.trans (hb.mono HBA.out.size))
  clear hb hr hfd hl
  obtain ⟨r1, r2⟩ := r
  go_wp2_with fail
  go_ret
  exact ⟨by rw [← HR.out]; rfl, HB.out.alloc HB.out.size _⟩

set_option maxRecDepth 100000 in
set_option maxHeartbeats 4000000 in
theorem outdated_no {w : World} {g c : Nat} (h : VecAt MarkS w (some ⟨g, 0, none⟩) 1 c [(1, 5)]) :
    Calls Tryz.prog 21 #[.agg #[.int .i64 0, .int .i64 0, .int .i64 0, .slice none 0 0, .slice none 0 0, .slice none 0 0], .agg #[.slice none 0 0, .slice none 0 0, .slice (some ⟨g, 0, none⟩) 1 c, .int .i64 0, .int .i64 0, .int .i64 1, .int .i64 1, .int .i64 1]] w fun e w' => e = .returned (.int .i64 0) ∧ Below w.heap.size w w' := by
  have hcap := h.cap
  have hcm := h.capm
  obtain ⟨wa, hwa⟩ : ∃ wa, wa = w.alloc (.cells #[.int .i64 0, .int .i64 0, .int .i64 0, .slice none 0 0, .slice none 0 0, .slice none 0 0] 26) := ⟨_, rfl⟩
  obtain ⟨wb, hwb⟩ : ∃ wb, wb = wa.alloc (.cells #[.slice none 0 0, .slice none 0 0, .slice (some ⟨g, 0, none⟩) 1 c, .int .i64 0, .int .i64 0, .int .i64 1, .int .i64 1, .int .i64 1] 47) := ⟨_, rfl⟩
  have sa : wa.heap.size = w.heap.size + 1 := by rw [hwa]; exact Array.size_push _
  have sb : wb.heap.size = w.heap.size + 2 := by rw [hwb]; show (wa.heap.push _).size = _; rw [Array.size_push, sa]
  have ba : Below w.heap.size w wa := by rw [hwa]; exact (Below.refl _ _).alloc (Nat.le_refl _) _
  have bb : Below w.heap.size w wb := by rw [hwb]; exact ba.alloc ba.size _
  have gb : wb.heap[w.heap.size + 1]? = some (.cells #[.slice none 0 0, .slice none 0 0, .slice (some ⟨g, 0, none⟩) 1 c, .int .i64 0, .int .i64 0, .int .i64 1, .int .i64 1, .int .i64 1] 47 (0, 0)) := by rw [hwb, ← sa]; exact heap_alloc_new _ _
  have ga : wb.heap[w.heap.size]? = some (.cells #[.int .i64 0, .int .i64 0, .int .i64 0, .slice none 0 0, .slice none 0 0, .slice none 0 0] 26 (0, 0)) := by rw [hwb, heap_alloc_old _ _ _ (by omega), hwa]; exact heap_alloc_new _ _
  have HBB := Lib.hid bb
  have HGA := Lib.hid ga
  have HGB := Lib.hid gb
  have HSB := Lib.hid sb
  have HH := Lib.hid h
  have HWB := Lib.hid (show (w.alloc (.cells #[.int .i64 0, .int .i64 0, .int .i64 0, .slice none 0 0, .slice none 0 0, .slice none 0 0] 26)).alloc (.cells #[.slice none 0 0, .slice none 0 0, .slice (some ⟨g, 0, none⟩) 1 c, .int .i64 0, .int .i64 0, .int .i64 1, .int .i64 1, .int .i64 1] 47) = wb from by rw [hwb, hwa])
  have HLK := Lib.hid (lookO_nil 1 1 1 (.func (.func 31) #[] #[]) wb)
  have a0 : wb.cell? ⟨w.heap.size, 0, none⟩ = some (.int .i64 0) := cell_blk ga rfl
  have a1 : wb.cell? ⟨w.heap.size, 1, none⟩ = some (.int .i64 0) := cell_blk ga rfl
  have a2 : wb.cell? ⟨w.heap.size, 2, none⟩ = some (.int .i64 0) := cell_blk ga rfl
  have a3 : wb.cell? ⟨w.heap.size, 3, none⟩ = some (.slice none 0 0) := cell_blk ga rfl
  have a4 : wb.cell? ⟨w.heap.size, 4, none⟩ = some (.slice none 0 0) := cell_blk ga rfl
  have a5 : wb.cell? ⟨w.heap.size, 5, none⟩ = some (.slice none 0 0) := cell_blk ga rfl
  have b0 : wb.cell? ⟨w.heap.size + 1, 0, none⟩ = some (.slice none 0 0) := cell_blk gb rfl
  have b1 : wb.cell? ⟨w.heap.size + 1, 1, none⟩ = some (.slice none 0 0) := cell_blk gb rfl
  have b2 : wb.cell? ⟨w.heap.size + 1, 2, none⟩ = some (.slice (some ⟨g, 0, none⟩) 1 c) := cell_blk gb rfl
  have b3 : wb.cell? ⟨w.heap.size + 1, 3, none⟩ = some (.int .i64 0) := cell_blk gb rfl
  have b4 : wb.cell? ⟨w.heap.size + 1, 4, none⟩ = some (.int .i64 0) := cell_blk gb rfl
  have b5 : wb.cell? ⟨w.heap.size + 1, 5, none⟩ = some (.int .i64 1) := cell_blk gb rfl
  have b6 : wb.cell? ⟨w.heap.size + 1, 6, none⟩ = some (.int .i64 1) := cell_blk gb rfl
  have b7 : wb.cell? ⟨w.heap.size + 1, 7, none⟩ = some (.int .i64 1) := cell_blk gb rfl
  clear hwb hwa sa sb ba bb gb ga h
  go_enter Tryz.func21, Tryz.ntmps21
  go_wp2_with fail
  rw [HWB.out]
  go_wp2_with fail
  refine HLK.out.mono ?_
  rintro e w1 ⟨rfl, hb1⟩
  obtain ⟨w2, hw2⟩ : ∃ w2, w2 = w1.alloc (.cells #[.int .i64 0, .int .i64 0, .int .i64 0] 28) := ⟨_, rfl⟩
  have hb2 : Below wb.heap.size wb w2 := by rw [hw2]; exact hb1.alloc hb1.size _
  have HB2 := Lib.hid (HBB.out.trans (hb2.mono HBB.out.size))
  have HBK := Lib.hid hb2
  have HW2 := Lib.hid hw2
  have HGA2 := Lib.hid ((hb2.block w.heap.size (by have := HSB.out; omega)).trans HGA.out)
  have HGB2 := Lib.hid ((hb2.block (w.heap.size + 1) (by have := HSB.out; omega)).trans HGB.out)
  have hg1 := (hb1.block (w.heap.size + 1) (by have := HSB.out; omega)).trans HGB.out
  have hl1 : w.heap.size + 1 < w1.heap.size := (Array.getElem?_eq_some_iff.1 hg1).1
  have e0 : w1.cell? ⟨w.heap.size + 1, 0, none⟩ = some (.slice none 0 0) := cell_blk hg1 rfl
  have e1 : w1.cell? ⟨w.heap.size + 1, 1, none⟩ = some (.slice none 0 0) := cell_blk hg1 rfl
  have e2 : w1.cell? ⟨w.heap.size + 1, 2, none⟩ = some (.slice (some ⟨g, 0, none⟩) 1 c) := cell_blk hg1 rfl
  have e3 : w1.cell? ⟨w.heap.size + 1, 3, none⟩ = some (.int .i64 0) := cell_blk hg1 rfl
  have e4 : w1.cell? ⟨w.heap.size + 1, 4, none⟩ = some (.int .i64 0) := cell_blk hg1 rfl
  have e5 : w1.cell? ⟨w.heap.size + 1, 5, none⟩ = some (.int .i64 1) := cell_blk hg1 rfl
  have e6 : w1.cell? ⟨w.heap.size + 1, 6, none⟩ = some (.int .i64 1) := cell_blk hg1 rfl
  have e7 : w1.cell? ⟨w.heap.size + 1, 7, none⟩ = some (.int .i64 1) := cell_blk hg1 rfl
  clear hb1 hb2 hw2 hg1
  go_wp2_with fail
  rw [← HW2.out]
  go_loopw [8, 45] (fun _ s45 wr => ∃ k : Nat, k ≤ 1 ∧ s45 = .int .i64 (k : Int) ∧ Hid (Below w2.heap.size w2 wr)) (fun _ s45 _ => 1 - (intOf s45).toNat)
  case atStart => exact ⟨0, by omega, rfl, Lib.hid (Below.refl _ _)⟩
  case round =>
    obtain ⟨k, hk, rfl, HB⟩ := hrel
    rename World => wr
    by_cases hkn : k = 0
    · subst hkn
      obtain ⟨sb, so, hsb, hsl, _, hsc9⟩ := ((HH.out.kept HB2.out).kept HB.out).get (show 0 < 1 by omega)
      obtain ⟨rfl, rfl, _⟩ := hsb
      have d0 : wr.cell? ⟨g, 0, none⟩ = some (.int .i64 1) := by simpa using hsc9 0 _ rfl
      have d1 : wr.cell? ⟨g, 0 + 1, none⟩ = some (.int .i64 5) := by simpa using hsc9 1 _ rfl
      have HXA := Lib.hid (heap_alloc_new wr (.cells #[.int .i64 1, .int .i64 5] 44))
      have HXL := Lib.hid ((Array.getElem?_eq_some_iff.1 (heap_alloc_new wr (.cells #[.int .i64 1, .int .i64 5] 44))).1)
      have HAL := Lib.hid (show Below w2.heap.size w2 (wr.alloc (.cells #[.int .i64 1, .int .i64 5] 44)) from HB.out.alloc HB.out.size _)
      have HMA := Lib.hid ((HAL.out.block w.heap.size (Array.getElem?_eq_some_iff.1 HGA2.out).1).trans HGA2.out)
      have HML := Lib.hid ((Array.getElem?_eq_some_iff.1 HMA.out).1)
      clear hsc9 hsl
      go_wp2_with fail
      refine wp_region_fill (by kernel_rfl) (by kernel_rfl) (by kernel_rfl) (Below (wr.alloc (.cells #[.int .i64 1, .int .i64 5] 44)).heap.size (wr.alloc (.cells #[.int .i64 1, .int .i64 5] 44))) (FV (fun j_9 => match j_9 with | 0 => some (.pointer (some ⟨wr.heap.size, 1, none⟩)) | 1 => some (.int .i64 5) | 2 => some (.agg #[.int .i64 0, .int .i64 0, .int .i64 0, .slice none 0 0, .slice none 0 0, .slice none 0 0]) | 3 => some (.pointer (some ⟨wr.heap.size, 0, none⟩)) | 4 => some (.int .i64 1) | 5 => some (.int .i64 0) | 6 => some (.bool false) | _ => none) (fun _ _ => True)) (Below.refl _ _).drew ?_ ?_
      · intro i9 o ho V w9 K hJ hdep hK
        have HJ := Lib.hid hJ
        simp only [fill, slotOf, List.size_toArray, List.length_cons, List.length_nil, Nat.reduceAdd, List.getElem?_toArray, List.getElem?_cons_zero, List.getElem?_cons_succ, Option.bind_some, Act.put, List.setIfInBounds_toArray, List.set_cons_zero, List.set_cons_succ] at hK ⊢
        have hin : i9 < 7 := (Array.getElem?_eq_some_iff.1 ho).1
        have hcs : i9 = 0 ∨ i9 = 1 ∨ i9 = 2 ∨ i9 = 3 ∨ i9 = 4 ∨ i9 = 5 ∨ i9 = 6 := by omega
        clear hin
        rcases hcs with rfl | rfl | rfl | rfl | rfl | rfl | rfl
        · obtain rfl := Option.some.inj ho.symm
          clear hdep ho hJ
          try simp only [fill, slotOf, List.size_toArray, List.length_cons, List.length_nil, Nat.reduceAdd, List.getElem?_toArray, List.getElem?_cons_zero, List.getElem?_cons_succ, Option.bind_some, Act.put, List.setIfInBounds_toArray, List.set_cons_zero, List.set_cons_succ] at hK ⊢
          go_simp
          exact hK (.pointer (some ⟨wr.heap.size, 1, none⟩)) _ HJ.out rfl (fun j y h => h) _ rfl
        · obtain rfl := Option.some.inj ho.symm
          have d0 : V 0 = .pointer (some ⟨wr.heap.size, 1, none⟩) := hdep ⟨0, .data⟩ (by simp) rfl
          have e1 : w9.cell? ⟨wr.heap.size, 1, none⟩ = some (.int .i64 5) := (hJ.cell (p := ⟨wr.heap.size, 1, none⟩) HXL.out).trans (cell_blk HXA.out rfl)
          clear hdep ho hJ
          try simp only [fill, slotOf, List.size_toArray, List.length_cons, List.length_nil, Nat.reduceAdd, List.getElem?_toArray, List.getElem?_cons_zero, List.getElem?_cons_succ, Option.bind_some, Act.put, List.setIfInBounds_toArray, List.set_cons_zero, List.set_cons_succ] at hK ⊢
          rw [d0] at hK ⊢
          go_simp
          exact hK (.int .i64 5) _ HJ.out rfl (fun j y h => h) _ rfl
        · obtain rfl := Option.some.inj ho.symm
          have m0 : w9.cell? ⟨w.heap.size, 0, none⟩ = some (.int .i64 0) := (hJ.cell (p := ⟨w.heap.size, 0, none⟩) HML.out).trans (cell_blk HMA.out rfl)
          have m1 : w9.cell? ⟨w.heap.size, 1, none⟩ = some (.int .i64 0) := (hJ.cell (p := ⟨w.heap.size, 1, none⟩) HML.out).trans (cell_blk HMA.out rfl)
          have m2 : w9.cell? ⟨w.heap.size, 2, none⟩ = some (.int .i64 0) := (hJ.cell (p := ⟨w.heap.size, 2, none⟩) HML.out).trans (cell_blk HMA.out rfl)
          have m3 : w9.cell? ⟨w.heap.size, 3, none⟩ = some (.slice none 0 0) := (hJ.cell (p := ⟨w.heap.size, 3, none⟩) HML.out).trans (cell_blk HMA.out rfl)
          have m4 : w9.cell? ⟨w.heap.size, 4, none⟩ = some (.slice none 0 0) := (hJ.cell (p := ⟨w.heap.size, 4, none⟩) HML.out).trans (cell_blk HMA.out rfl)
          have m5 : w9.cell? ⟨w.heap.size, 5, none⟩ = some (.slice none 0 0) := (hJ.cell (p := ⟨w.heap.size, 5, none⟩) HML.out).trans (cell_blk HMA.out rfl)
          clear hdep ho hJ
          try simp only [fill, slotOf, List.size_toArray, List.length_cons, List.length_nil, Nat.reduceAdd, List.getElem?_toArray, List.getElem?_cons_zero, List.getElem?_cons_succ, Option.bind_some, Act.put, List.setIfInBounds_toArray, List.set_cons_zero, List.set_cons_succ] at hK ⊢
          go_simp
          exact hK (.agg #[.int .i64 0, .int .i64 0, .int .i64 0, .slice none 0 0, .slice none 0 0, .slice none 0 0]) _ HJ.out rfl (fun j y h => h) _ rfl
        · obtain rfl := Option.some.inj ho.symm
          clear hdep ho hJ
          try simp only [fill, slotOf, List.size_toArray, List.length_cons, List.length_nil, Nat.reduceAdd, List.getElem?_toArray, List.getElem?_cons_zero, List.getElem?_cons_succ, Option.bind_some, Act.put, List.setIfInBounds_toArray, List.set_cons_zero, List.set_cons_succ] at hK ⊢
          go_simp
          exact hK (.pointer (some ⟨wr.heap.size, 0, none⟩)) _ HJ.out rfl (fun j y h => h) _ rfl
        · obtain rfl := Option.some.inj ho.symm
          have d3 : V 3 = .pointer (some ⟨wr.heap.size, 0, none⟩) := hdep ⟨3, .data⟩ (by simp) rfl
          have e0 : w9.cell? ⟨wr.heap.size, 0, none⟩ = some (.int .i64 1) := (hJ.cell (p := ⟨wr.heap.size, 0, none⟩) HXL.out).trans (cell_blk HXA.out rfl)
          clear hdep ho hJ
          try simp only [fill, slotOf, List.size_toArray, List.length_cons, List.length_nil, Nat.reduceAdd, List.getElem?_toArray, List.getElem?_cons_zero, List.getElem?_cons_succ, Option.bind_some, Act.put, List.setIfInBounds_toArray, List.set_cons_zero, List.set_cons_succ] at hK ⊢
          rw [d3] at hK ⊢
          go_simp
          exact hK (.int .i64 1) _ HJ.out rfl (fun j y h => h) _ rfl
        · obtain rfl := Option.some.inj ho.symm
          have d2 : V 2 = .agg #[.int .i64 0, .int .i64 0, .int .i64 0, .slice none 0 0, .slice none 0 0, .slice none 0 0] := hdep ⟨2, .data⟩ (by simp) rfl
          have d4 : V 4 = .int .i64 1 := hdep ⟨4, .data⟩ (by simp) rfl
          clear hdep ho hJ
          try simp only [fill, slotOf, List.size_toArray, List.length_cons, List.length_nil, Nat.reduceAdd, List.getElem?_toArray, List.getElem?_cons_zero, List.getElem?_cons_succ, Option.bind_some, Act.put, List.setIfInBounds_toArray, List.set_cons_zero, List.set_cons_succ] at hK ⊢
          rw [d2, d4] at hK ⊢
          go_simp
          refine (mark_any (w := w9) (s := 0) (d := 0) (hz := 0) (ea := none) (en := 0) (ec := 0) (oa := none) (on := 0) (oc := 0) (VecAt.empty (S := MarkS) w9 none 0 (by omega) (fun _ => rfl)) 1).mono ?_
          rintro e w8 ⟨rfl, hb8⟩
          exact hK (.int .i64 0) _ (HJ.out.trans (hb8.mono HJ.out.size)) rfl (FV.mono ((fun _ _ _ => trivial) hb8)) _ rfl
        · obtain rfl := Option.some.inj ho.symm
          have d1 : V 1 = .int .i64 5 := hdep ⟨1, .data⟩ (by simp) rfl
          have d5 : V 5 = .int .i64 0 := hdep ⟨5, .data⟩ (by simp) rfl
          clear hdep ho hJ
          try simp only [fill, slotOf, List.size_toArray, List.length_cons, List.length_nil, Nat.reduceAdd, List.getElem?_toArray, List.getElem?_cons_zero, List.getElem?_cons_succ, Option.bind_some, Act.put, List.setIfInBounds_toArray, List.set_cons_zero, List.set_cons_succ] at hK ⊢
          rw [d1, d5] at hK ⊢
          go_simp
          exact hK (.bool false) _ HJ.out rfl (fun j y h => h) _ rfl
      · intro V w9 hJ hall
        have dL : V 6 = .bool false := hall 6 (by decide)
        have HJ9 := Lib.hid hJ
        clear hall hJ
        simp only [fill, slotOf, List.size_toArray, List.length_cons, List.length_nil, Nat.reduceAdd, List.getElem?_toArray, List.getElem?_cons_zero, List.getElem?_cons_succ, Option.bind_some, Act.put, List.setIfInBounds_toArray, List.set_cons_zero, List.set_cons_succ]
        rw [dL]
        clear dL
        have HBZ := Lib.hid (HAL.out.trans (HJ9.out.mono HAL.out.size))
        go_wp2_with fail
        go_roundw
        case rel => exact ⟨1, by omega, rfl, HBZ⟩
        case measure => simp [intOf]
    · obtain rfl : k = 1 := by omega
      go_wp2_with fail
      go_ret
      exact ⟨rfl, HB2.out.trans (HB.out.mono HB2.out.size)⟩

set_option maxRecDepth 100000 in
set_option maxHeartbeats 4000000 in
theorem remaining_nil (g c : Nat) (w : World) :
    Calls Tryz.prog 22 #[.agg #[.int .i64 0, .int .i64 0, .int .i64 0, .slice none 0 0, .slice none 0 0, .slice none 0 0], .agg #[.slice none 0 0, .slice none 0 0, .slice (some ⟨g, 0, none⟩) 1 c, .int .i64 0, .int .i64 0, .int .i64 1, .int .i64 1, .int .i64 1]] w fun e w' => ∃ b, e = .returned (.tuple #[.map (some b), .int .i64 0]) ∧ NoMap w' b ∧ w.heap.size ≤ b ∧ Below w.heap.size w w' := by
  obtain ⟨wa, hwa⟩ : ∃ wa, wa = w.alloc (.cells #[.int .i64 0, .int .i64 0, .int .i64 0, .slice none 0 0, .slice none 0 0, .slice none 0 0] 26) := ⟨_, rfl⟩
  obtain ⟨wb, hwb⟩ : ∃ wb, wb = wa.alloc (.cells #[.slice none 0 0, .slice none 0 0, .slice (some ⟨g, 0, none⟩) 1 c, .int .i64 0, .int .i64 0, .int .i64 1, .int .i64 1, .int .i64 1] 47) := ⟨_, rfl⟩
  obtain ⟨wc, hwc⟩ : ∃ wc, wc = wb.alloc (.map #[] 0) := ⟨_, rfl⟩
  have sa : wa.heap.size = w.heap.size + 1 := by rw [hwa]; exact Array.size_push _
  have sb : wb.heap.size = w.heap.size + 2 := by rw [hwb]; show (wa.heap.push _).size = _; rw [Array.size_push, sa]
  have ba : Below w.heap.size w wa := by rw [hwa]; exact (Below.refl _ _).alloc (Nat.le_refl _) _
  have bb : Below w.heap.size w wb := by rw [hwb]; exact ba.alloc ba.size _
  have bc : Below w.heap.size w wc := by rw [hwc]; exact bb.alloc bb.size _
  have gb : wc.heap[w.heap.size + 1]? = some (.cells #[.slice none 0 0, .slice none 0 0, .slice (some ⟨g, 0, none⟩) 1 c, .int .i64 0, .int .i64 0, .int .i64 1, .int .i64 1, .int .i64 1] 47 (0, 0)) := by rw [hwc, heap_alloc_old _ _ _ (by omega), hwb, ← sa]; exact heap_alloc_new _ _
  have ga : wc.heap[w.heap.size]? = some (.cells #[.int .i64 0, .int .i64 0, .int .i64 0, .slice none 0 0, .slice none 0 0, .slice none 0 0] 26 (0, 0)) := by rw [hwc, heap_alloc_old _ _ _ (by omega), hwb, heap_alloc_old _ _ _ (by omega), hwa]; exact heap_alloc_new _ _
  have HNM := Lib.hid (show NoMap wc wb.heap.size from by rw [hwc]; exact NoMap.made wb)
  have HBC := Lib.hid bc
  have HWB := Lib.hid (show (w.alloc (.cells #[.int .i64 0, .int .i64 0, .int .i64 0, .slice none 0 0, .slice none 0 0, .slice none 0 0] 26)).alloc (.cells #[.slice none 0 0, .slice none 0 0, .slice (some ⟨g, 0, none⟩) 1 c, .int .i64 0, .int .i64 0, .int .i64 1, .int .i64 1, .int .i64 1] 47) = wb from by rw [hwb, hwa])
  have HWC := Lib.hid (show wb.alloc (.map #[] 0) = wc from hwc.symm)
  have HSB := Lib.hid sb
  have a0 : wc.cell? ⟨w.heap.size, 0, none⟩ = some (.int .i64 0) := cell_blk ga rfl
  have a1 : wc.cell? ⟨w.heap.size, 1, none⟩ = some (.int .i64 0) := cell_blk ga rfl
  have a2 : wc.cell? ⟨w.heap.size, 2, none⟩ = some (.int .i64 0) := cell_blk ga rfl
  have a3 : wc.cell? ⟨w.heap.size, 3, none⟩ = some (.slice none 0 0) := cell_blk ga rfl
  have a4 : wc.cell? ⟨w.heap.size, 4, none⟩ = some (.slice none 0 0) := cell_blk ga rfl
  have a5 : wc.cell? ⟨w.heap.size, 5, none⟩ = some (.slice none 0 0) := cell_blk ga rfl
  have b0 : wc.cell? ⟨w.heap.size + 1, 0, none⟩ = some (.slice none 0 0) := cell_blk gb rfl
  have b1 : wc.cell? ⟨w.heap.size + 1, 1, none⟩ = some (.slice none 0 0) := cell_blk gb rfl
  have b2 : wc.cell? ⟨w.heap.size + 1, 2, none⟩ = some (.slice (some ⟨g, 0, none⟩) 1 c) := cell_blk gb rfl
  have b3 : wc.cell? ⟨w.heap.size + 1, 3, none⟩ = some (.int .i64 0) := cell_blk gb rfl
  have b4 : wc.cell? ⟨w.heap.size + 1, 4, none⟩ = some (.int .i64 0) := cell_blk gb rfl
  have b5 : wc.cell? ⟨w.heap.size + 1, 5, none⟩ = some (.int .i64 1) := cell_blk gb rfl
  have b6 : wc.cell? ⟨w.heap.size + 1, 6, none⟩ = some (.int .i64 1) := cell_blk gb rfl
  have b7 : wc.cell? ⟨w.heap.size + 1, 7, none⟩ = some (.int .i64 1) := cell_blk gb rfl
  clear hwb hwa hwc sa sb ba bb bc gb ga
  have hmap := @run_makeMap Tryz.prog
  go_enter Tryz.func22, Tryz.ntmps22
  go_wp2_with fail
  rw [HWB.out, HWC.out]
  go_wp2_with fail
  refine wp_loop_rounds 1 ?_
  rw [rounds_succ]
  go_wp2_with fail
  refine wp_loop_rounds 1 ?_
  rw [rounds_succ]
  go_wp2_with fail
  refine wp_loop_rounds 1 ?_
  rw [rounds_succ]
  go_wp2_with fail
  refine wp_loop_rounds 1 ?_
  rw [rounds_succ]
  go_wp2_with fail
  first | go_ret2 | go_ret
  exact ⟨w.heap.size + 1 + 1, rfl, by have e := HNM.out; rw [HSB.out] at e; exact e, by omega, HBC.out⟩

end Go.Proofs.YtmgimmbihcbkbaaGreat
