/- Manifests: what layer 13's fixed edit meets on the manifest of nothing, walked. Written by genmfe.py. -/
import Derived.Test.YtmgimmbihcbkbaaGreatMfD
namespace Go.Proofs.YtmgimmbihcbkbaaGreat
open Go.RowKit LabPlain
set_option linter.unusedVariables false

set_option maxRecDepth 100000 in
set_option maxHeartbeats 4000000 in
theorem rightEdit_yes {w : World} {g c : Nat} (h : VecAt MarkS w (some ⟨g, 0, none⟩) 1 c [(1, 5)]) :
    Calls Tryz.prog 20 #[.agg #[.slice none 0 0, .slice none 0 0, .slice (some ⟨g, 0, none⟩) 1 c, .int .i64 0, .int .i64 0, .int .i64 1, .int .i64 1, .int .i64 1]] w fun e w' => e = .returned (.bool true) ∧ Below w.heap.size w w' := by
  obtain ⟨wa, hwa⟩ : ∃ wa, wa = w.alloc (.cells #[.slice none 0 0, .slice none 0 0, .slice (some ⟨g, 0, none⟩) 1 c, .int .i64 0, .int .i64 0, .int .i64 1, .int .i64 1, .int .i64 1] 47) := ⟨_, rfl⟩
  have ba : Below w.heap.size w wa := by rw [hwa]; exact (Below.refl _ _).alloc (Nat.le_refl _) _
  have ga : wa.heap[w.heap.size]? = some (.cells #[.slice none 0 0, .slice none 0 0, .slice (some ⟨g, 0, none⟩) 1 c, .int .i64 0, .int .i64 0, .int .i64 1, .int .i64 1, .int .i64 1] 47 (0, 0)) := by rw [hwa]; exact heap_alloc_new _ _
  have sa : wa.heap.size = w.heap.size + 1 := by rw [hwa]; exact Array.size_push _
  obtain ⟨wb, hwb⟩ : ∃ wb, wb = wa.alloc (.cells #[.slice none 0 0] 22) := ⟨_, rfl⟩
  have bb : Below w.heap.size w wb := by rw [hwb]; exact ba.alloc ba.size _
  have cb : wb.cell? ⟨wa.heap.size, 0, none⟩ = some (.slice none 0 0) := by rw [hwb]; exact cell_blk (heap_alloc_new _ _) rfl
  have sb : wb.heap.size = wa.heap.size + 1 := by rw [hwb]; exact Array.size_push _
  have HS1 := Lib.hid (sorted0E (w := wb) (gf := 60) (lb := #[.pointer (some ⟨wa.heap.size, 0, none⟩)]) (fun _ _ => rfl) (fun m _ => sseqE m wa.heap.size none 0 wb (by omega) cb wb.heap.size) (.func (.func 14) #[] #[]))
  have HGA := Lib.hid ga
  have HWA := Lib.hid hwa
  have HWB := Lib.hid hwb
  have HBB := Lib.hid bb
  have HSA := Lib.hid sa
  have HSB := Lib.hid sb
  have HG2 := Lib.hid (show wb.heap[w.heap.size]? = some (.cells #[.slice none 0 0, .slice none 0 0, .slice (some ⟨g, 0, none⟩) 1 c, .int .i64 0, .int .i64 0, .int .i64 1, .int .i64 1, .int .i64 1] 47 (0, 0)) from by rw [hwb, heap_alloc_old _ _ _ (by omega)]; exact ga)
  have HH := Lib.hid h
  have a0 : wa.cell? ⟨w.heap.size, 0, none⟩ = some (.slice none 0 0) := cell_blk ga rfl
  have a1 : wa.cell? ⟨w.heap.size, 1, none⟩ = some (.slice none 0 0) := cell_blk ga rfl
  have a2 : wa.cell? ⟨w.heap.size, 2, none⟩ = some (.slice (some ⟨g, 0, none⟩) 1 c) := cell_blk ga rfl
  have a3 : wa.cell? ⟨w.heap.size, 3, none⟩ = some (.int .i64 0) := cell_blk ga rfl
  have a4 : wa.cell? ⟨w.heap.size, 4, none⟩ = some (.int .i64 0) := cell_blk ga rfl
  have a5 : wa.cell? ⟨w.heap.size, 5, none⟩ = some (.int .i64 1) := cell_blk ga rfl
  have a6 : wa.cell? ⟨w.heap.size, 6, none⟩ = some (.int .i64 1) := cell_blk ga rfl
  have a7 : wa.cell? ⟨w.heap.size, 7, none⟩ = some (.int .i64 1) := cell_blk ga rfl
  clear hwa ba ga sa hwb bb cb sb h
  go_enter Tryz.func20, Tryz.ntmps20
  go_wp2_with fail
  rw [← HWA.out]
  refine (svaluesE none 0 0).mono ?_
  rintro e w1 ⟨rfl, rfl⟩
  go_wp2_with fail
  rw [← HWB.out]
  refine HS1.out.mono ?_
  rintro e w2 ⟨⟨qa2, qc2, rfl⟩, hb2⟩
  have HB2 := Lib.hid (HBB.out.trans (hb2.mono HBB.out.size))
  have HG3 := Lib.hid ((hb2.block w.heap.size (by have := HSA.out; have := HSB.out; omega)).trans HG2.out)
  clear a0 a1 a2 a3 a4 a5 a6 a7
  have b0 : w2.cell? ⟨w.heap.size, 0, none⟩ = some (.slice none 0 0) := cell_blk HG3.out rfl
  have b1 : w2.cell? ⟨w.heap.size, 1, none⟩ = some (.slice none 0 0) := cell_blk HG3.out rfl
  have b2 : w2.cell? ⟨w.heap.size, 2, none⟩ = some (.slice (some ⟨g, 0, none⟩) 1 c) := cell_blk HG3.out rfl
  have b3 : w2.cell? ⟨w.heap.size, 3, none⟩ = some (.int .i64 0) := cell_blk HG3.out rfl
  have b4 : w2.cell? ⟨w.heap.size, 4, none⟩ = some (.int .i64 0) := cell_blk HG3.out rfl
  have b5 : w2.cell? ⟨w.heap.size, 5, none⟩ = some (.int .i64 1) := cell_blk HG3.out rfl
  have b6 : w2.cell? ⟨w.heap.size, 6, none⟩ = some (.int .i64 1) := cell_blk HG3.out rfl
  have b7 : w2.cell? ⟨w.heap.size, 7, none⟩ = some (.int .i64 1) := cell_blk HG3.out rfl
  obtain ⟨wc, hwc⟩ : ∃ wc, wc = w2.alloc (.cells #[.slice none 0 0] 45) := ⟨_, rfl⟩
  have bc : Below w.heap.size w wc := by rw [hwc]; exact HB2.out.alloc HB2.out.size _
  have cc : wc.cell? ⟨w2.heap.size, 0, none⟩ = some (.slice none 0 0) := by rw [hwc]; exact cell_blk (heap_alloc_new _ _) rfl
  have sc : wc.heap.size = w2.heap.size + 1 := by rw [hwc]; exact Array.size_push _
  have HS2 := Lib.hid (sorted0S (w := wc) (gf := 63) (lb := #[.pointer (some ⟨w2.heap.size, 0, none⟩)]) (fun _ _ => rfl) (fun m _ => sseqS m w2.heap.size none 0 wc (by omega) cc wc.heap.size))
  have HL2 := Lib.hid (show w.heap.size < w2.heap.size from by have := HSA.out; have := HSB.out; have := hb2.size; omega)
  have HG4 := Lib.hid (show wc.heap[w.heap.size]? = some (.cells #[.slice none 0 0, .slice none 0 0, .slice (some ⟨g, 0, none⟩) 1 c, .int .i64 0, .int .i64 0, .int .i64 1, .int .i64 1, .int .i64 1] 47 (0, 0)) from by rw [hwc, heap_alloc_old _ _ _ HL2.out]; exact HG3.out)
  have HWC := Lib.hid hwc
  have HBC := Lib.hid bc
  have HSC := Lib.hid sc
  clear hwc bc cc sc hb2
  go_wp2_with fail
  refine (svaluesS none 0 0).mono ?_
  rintro e w3 ⟨rfl, rfl⟩
  go_wp2_with fail
  rw [← HWC.out]
  refine HS2.out.mono ?_
  rintro e w4 ⟨⟨qa4, qc4, rfl⟩, hb4⟩
  have HB4 := Lib.hid (HBC.out.trans (hb4.mono HBC.out.size))
  have HG5 := Lib.hid ((hb4.block w.heap.size (by have := HSC.out; have := HL2.out; omega)).trans HG4.out)
  clear b0 b1 b2 b3 b4 b5 b6 b7
  have m0 : w4.cell? ⟨w.heap.size, 0, none⟩ = some (.slice none 0 0) := cell_blk HG5.out rfl
  have m1 : w4.cell? ⟨w.heap.size, 1, none⟩ = some (.slice none 0 0) := cell_blk HG5.out rfl
  have m2 : w4.cell? ⟨w.heap.size, 2, none⟩ = some (.slice (some ⟨g, 0, none⟩) 1 c) := cell_blk HG5.out rfl
  have m3 : w4.cell? ⟨w.heap.size, 3, none⟩ = some (.int .i64 0) := cell_blk HG5.out rfl
  have m4 : w4.cell? ⟨w.heap.size, 4, none⟩ = some (.int .i64 0) := cell_blk HG5.out rfl
  have m5 : w4.cell? ⟨w.heap.size, 5, none⟩ = some (.int .i64 1) := cell_blk HG5.out rfl
  have m6 : w4.cell? ⟨w.heap.size, 6, none⟩ = some (.int .i64 1) := cell_blk HG5.out rfl
  have m7 : w4.cell? ⟨w.heap.size, 7, none⟩ = some (.int .i64 1) := cell_blk HG5.out rfl
  clear hb4
  have HR1 := Lib.hid (fun cf => rising_one (HH.out.kept HB4.out) (x := 1) (y := 5) ⟨by omega, by omega⟩ ⟨by omega, by omega⟩ cf)
  go_wp2_with fail
  refine (rising_nilE qa2 qc2 _ _ _).mono ?_
  rintro e w5 ⟨rfl, rfl⟩
  go_wp2_with fail
  refine (rising_nilS qa4 qc4 _ _ _).mono ?_
  rintro e w5 ⟨rfl, rfl⟩
  go_wp2_with fail
  refine (HR1.out _).mono ?_
  rintro e w6 ⟨rfl, hb6⟩
  have HB6 := Lib.hid (HB4.out.trans (hb6.mono HB4.out.size))
  have HG6 := Lib.hid ((hb6.block w.heap.size (Array.getElem?_eq_some_iff.1 HG5.out).1).trans HG5.out)
  clear hb6
  clear m0 m1 m2 m3 m4 m5 m6 m7
  have d0 : w6.cell? ⟨w.heap.size, 0, none⟩ = some (.slice none 0 0) := cell_blk HG6.out rfl
  have d1 : w6.cell? ⟨w.heap.size, 1, none⟩ = some (.slice none 0 0) := cell_blk HG6.out rfl
  have d2 : w6.cell? ⟨w.heap.size, 2, none⟩ = some (.slice (some ⟨g, 0, none⟩) 1 c) := cell_blk HG6.out rfl
  have d3 : w6.cell? ⟨w.heap.size, 3, none⟩ = some (.int .i64 0) := cell_blk HG6.out rfl
  have d4 : w6.cell? ⟨w.heap.size, 4, none⟩ = some (.int .i64 0) := cell_blk HG6.out rfl
  have d5 : w6.cell? ⟨w.heap.size, 5, none⟩ = some (.int .i64 1) := cell_blk HG6.out rfl
  have d6 : w6.cell? ⟨w.heap.size, 6, none⟩ = some (.int .i64 1) := cell_blk HG6.out rfl
  have d7 : w6.cell? ⟨w.heap.size, 7, none⟩ = some (.int .i64 1) := cell_blk HG6.out rfl
  go_wp2_with fail
  refine (within_yes (by omega) (by omega) _).mono ?_
  rintro e w7 ⟨rfl, rfl⟩
  go_wp2_with fail
  refine (within_yes (by omega) (by omega) _).mono ?_
  rintro e w7 ⟨rfl, rfl⟩
  go_wp2_with fail
  refine (rightOwner_yes ⟨by omega, by omega⟩ ⟨by omega, by omega⟩ ⟨by omega, by omega⟩ _).mono ?_
  rintro e w7 ⟨rfl, hb7⟩
  have HB7 := Lib.hid (HB6.out.trans (hb7.mono HB6.out.size))
  clear hb7
  go_wp2_with fail
  go_ret
  exact ⟨rfl, HB7.out⟩

end Go.Proofs.YtmgimmbihcbkbaaGreat
