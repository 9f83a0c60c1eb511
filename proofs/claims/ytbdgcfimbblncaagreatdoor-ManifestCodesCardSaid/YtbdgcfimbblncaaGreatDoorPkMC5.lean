/- Texts put together by packtpl2.py: MfE, MfF, MfG, MfTw, MfQ, MfQM, MfQR, LabNm, LabAt, LabRight, Apnd. -/
import Derived.Test.YtbdgcfimbblncaaGreatDoorPkMC1
import Derived.Test.YtbdgcfimbblncaaGreatDoorPkMC2
import Derived.Test.YtbdgcfimbblncaaGreatDoorPkMC3
import Derived.Test.YtbdgcfimbblncaaGreatDoorPkMC4
import Derived.Maps.Own
import Derived.Maps.OwnSet
import Derived.Lib.MinMax
import Derived.Below
import Derived.Deep.Slices
import Derived.Deep.Fields
import Derived.ChangeSame
import Derived.Laws.Cover1
import Derived.Maps.AppendAt
import Derived.Deep.RegionLaw
import Derived.BigRegion
section PkMC5_0
/- Manifests: what layer 13's fixed edit meets on the manifest of nothing, walked. Written by genmfe.py. -/
namespace Go.Proofs.YtbdgcfimbblncaaGreatDoor
open Go.RowKit LabPlain
set_option linter.unusedVariables false

set_option maxRecDepth 100000 in
set_option maxHeartbeats 4000000 in
theorem rightEdit_yes {w : World} {g c : Nat} (h : VecAt MarkS w (some ⟨g, 0, none⟩) 1 c [(1, 5)]) :
    Calls Tryz.prog 63 #[.agg #[.slice none 0 0, .slice none 0 0, .slice (some ⟨g, 0, none⟩) 1 c, .int .i64 0, .int .i64 0, .int .i64 1, .int .i64 1, .int .i64 1]] w fun e w' => e = .returned (.bool true) ∧ Below w.heap.size w w' := by
  obtain ⟨wa, hwa⟩ : ∃ wa, wa = w.alloc (.cells #[.slice none 0 0, .slice none 0 0, .slice (some ⟨g, 0, none⟩) 1 c, .int .i64 0, .int .i64 0, .int .i64 1, .int .i64 1, .int .i64 1] 48) := ⟨_, rfl⟩
  have ba : Below w.heap.size w wa := by rw [hwa]; exact (Below.refl _ _).alloc (Nat.le_refl _) _
  have ga : wa.heap[w.heap.size]? = some (.cells #[.slice none 0 0, .slice none 0 0, .slice (some ⟨g, 0, none⟩) 1 c, .int .i64 0, .int .i64 0, .int .i64 1, .int .i64 1, .int .i64 1] 48 (0, 0)) := by rw [hwa]; exact heap_alloc_new _ _
  have sa : wa.heap.size = w.heap.size + 1 := by rw [hwa]; exact Array.size_push _
  obtain ⟨wb, hwb⟩ : ∃ wb, wb = wa.alloc (.cells #[.slice none 0 0] 22) := ⟨_, rfl⟩
  have bb : Below w.heap.size w wb := by rw [hwb]; exact ba.alloc ba.size _
  have cb : wb.cell? ⟨wa.heap.size, 0, none⟩ = some (.slice none 0 0) := by rw [hwb]; exact cell_blk (heap_alloc_new _ _) rfl
  have sb : wb.heap.size = wa.heap.size + 1 := by rw [hwb]; exact Array.size_push _
  have HS1 := Lib.hid (sorted0E (w := wb) (gf := 121) (lb := #[.pointer (some ⟨wa.heap.size, 0, none⟩)]) (fun _ _ => rfl) (fun m _ => sseqE m wa.heap.size none 0 wb (by omega) cb wb.heap.size) (.func (.func 38) #[] #[]))
  have HGA := Lib.hid ga
  have HWA := Lib.hid hwa
  have HWB := Lib.hid hwb
  have HBB := Lib.hid bb
  have HSA := Lib.hid sa
  have HSB := Lib.hid sb
  have HG2 := Lib.hid (show wb.heap[w.heap.size]? = some (.cells #[.slice none 0 0, .slice none 0 0, .slice (some ⟨g, 0, none⟩) 1 c, .int .i64 0, .int .i64 0, .int .i64 1, .int .i64 1, .int .i64 1] 48 (0, 0)) from by rw [hwb, hao9 _ _ _ (by omega)]; exact ga)
  have HH := Lib.hid h
  have a0 : wa.cell? ⟨w.heap.size, 0, none⟩ = some (.slice none 0 0) := cell_blk ga rfl
  have a1 : wa.cell? ⟨w.heap.size, 1, none⟩ = some (.slice none 0 0) := cell_blk ga rfl
  have a2 : wa.cell? ⟨w.heap.size, 2, none⟩ = some (.slice (some ⟨g, 0, none⟩) 1 c) := cell_blk ga rfl
  have a3 : wa.cell? ⟨w.heap.size, 3, none⟩ = some (.int .i64 0) := cell_blk ga rfl
  have a4 : wa.cell? ⟨w.heap.size, 4, none⟩ = some (.int .i64 0) := cell_blk ga rfl
  have a5 : wa.cell? ⟨w.heap.size, 5, none⟩ = some (.int .i64 1) := cell_blk ga rfl
  have a6 : wa.cell? ⟨w.heap.size, 6, none⟩ = some (.int .i64 1) := cell_blk ga rfl
  have a7 : wa.cell? ⟨w.heap.size, 7, none⟩ = some (.int .i64 1) := cell_blk ga rfl
  clear hwa ba ga sa hwb bb cb sb h
  go_enter Tryz.func63, Tryz.ntmps63
  go_wp2_with fail
  rw [← HWA.out]
  refine (svaluesE none 0 0).mono ?_
  rintro e w1 ⟨rfl, rfl⟩
  go_wp2_with fail
  rw [← HWB.out]
  refine HS1.out.mono ?_
  rintro e w2 ⟨⟨qa2, qc2, rfl⟩, hb2⟩
  have HB2 := Lib.hid (HBB.out.trans (hb2.mono HBB.out.size))
  have HG3 := Lib.hid ((hb2.block w.heap.size (by have := HSA.out; have := HSB.out; omega)).trans HG2.out)
  clear a0 a1 a2 a3 a4 a5 a6 a7
  have b0 : w2.cell? ⟨w.heap.size, 0, none⟩ = some (.slice none 0 0) := cell_blk HG3.out rfl
  have b1 : w2.cell? ⟨w.heap.size, 1, none⟩ = some (.slice none 0 0) := cell_blk HG3.out rfl
  have b2 : w2.cell? ⟨w.heap.size, 2, none⟩ = some (.slice (some ⟨g, 0, none⟩) 1 c) := cell_blk HG3.out rfl
  have b3 : w2.cell? ⟨w.heap.size, 3, none⟩ = some (.int .i64 0) := cell_blk HG3.out rfl
  have b4 : w2.cell? ⟨w.heap.size, 4, none⟩ = some (.int .i64 0) := cell_blk HG3.out rfl
  have b5 : w2.cell? ⟨w.heap.size, 5, none⟩ = some (.int .i64 1) := cell_blk HG3.out rfl
  have b6 : w2.cell? ⟨w.heap.size, 6, none⟩ = some (.int .i64 1) := cell_blk HG3.out rfl
  have b7 : w2.cell? ⟨w.heap.size, 7, none⟩ = some (.int .i64 1) := cell_blk HG3.out rfl
  obtain ⟨wc, hwc⟩ : ∃ wc, wc = w2.alloc (.cells #[.slice none 0 0] 46) := ⟨_, rfl⟩
  have bc : Below w.heap.size w wc := by rw [hwc]; exact HB2.out.alloc HB2.out.size _
  have cc : wc.cell? ⟨w2.heap.size, 0, none⟩ = some (.slice none 0 0) := by rw [hwc]; exact cell_blk (heap_alloc_new _ _) rfl
  have sc : wc.heap.size = w2.heap.size + 1 := by rw [hwc]; exact Array.size_push _
  have HS2 := Lib.hid (sorted0S (w := wc) (gf := 124) (lb := #[.pointer (some ⟨w2.heap.size, 0, none⟩)]) (fun _ _ => rfl) (fun m _ => sseqS m w2.heap.size none 0 wc (by omega) cc wc.heap.size))
  have HL2 := Lib.hid (show w.heap.size < w2.heap.size from by have := HSA.out; have := HSB.out; have := hb2.size; omega)
  have HG4 := Lib.hid (show wc.heap[w.heap.size]? = some (.cells #[.slice none 0 0, .slice none 0 0, .slice (some ⟨g, 0, none⟩) 1 c, .int .i64 0, .int .i64 0, .int .i64 1, .int .i64 1, .int .i64 1] 48 (0, 0)) from by rw [hwc, hao9 _ _ _ HL2.out]; exact HG3.out)
  have HWC := Lib.hid hwc
  have HBC := Lib.hid bc
  have HSC := Lib.hid sc
  clear hwc bc cc sc hb2
  go_wp2_with fail
  refine (svaluesS none 0 0).mono ?_
  rintro e w3 ⟨rfl, rfl⟩
  go_wp2_with fail
  rw [← HWC.out]
  refine HS2.out.mono ?_
  rintro e w4 ⟨⟨qa4, qc4, rfl⟩, hb4⟩
  have HB4 := Lib.hid (HBC.out.trans (hb4.mono HBC.out.size))
  have HG5 := Lib.hid ((hb4.block w.heap.size (by have := HSC.out; have := HL2.out; omega)).trans HG4.out)
  clear b0 b1 b2 b3 b4 b5 b6 b7
  have m0 : w4.cell? ⟨w.heap.size, 0, none⟩ = some (.slice none 0 0) := cell_blk HG5.out rfl
  have m1 : w4.cell? ⟨w.heap.size, 1, none⟩ = some (.slice none 0 0) := cell_blk HG5.out rfl
  have m2 : w4.cell? ⟨w.heap.size, 2, none⟩ = some (.slice (some ⟨g, 0, none⟩) 1 c) := cell_blk HG5.out rfl
  have m3 : w4.cell? ⟨w.heap.size, 3, none⟩ = some (.int .i64 0) := cell_blk HG5.out rfl
  have m4 : w4.cell? ⟨w.heap.size, 4, none⟩ = some (.int .i64 0) := cell_blk HG5.out rfl
  have m5 : w4.cell? ⟨w.heap.size, 5, none⟩ = some (.int .i64 1) := cell_blk HG5.out rfl
  have m6 : w4.cell? ⟨w.heap.size, 6, none⟩ = some (.int .i64 1) := cell_blk HG5.out rfl
  have m7 : w4.cell? ⟨w.heap.size, 7, none⟩ = some (.int .i64 1) := cell_blk HG5.out rfl
  clear hb4
  have HR1 := Lib.hid (fun cf => rising_one (HH.out.kept HB4.out) (x := 1) (y := 5) ⟨by omega, by omega⟩ ⟨by omega, by omega⟩ cf)
  go_wp2_with fail
  refine (rising_nilE qa2 qc2 _ _ _).mono ?_
  rintro e w5 ⟨rfl, rfl⟩
  go_wp2_with fail
  refine (rising_nilS qa4 qc4 _ _ _).mono ?_
  rintro e w5 ⟨rfl, rfl⟩
  go_wp2_with fail
  refine (HR1.out _).mono ?_
  rintro e w6 ⟨rfl, hb6⟩
  have HB6 := Lib.hid (HB4.out.trans (hb6.mono HB4.out.size))
  have HG6 := Lib.hid ((hb6.block w.heap.size (Array.getElem?_eq_some_iff.1 HG5.out).1).trans HG5.out)
  clear hb6
  clear m0 m1 m2 m3 m4 m5 m6 m7
  have d0 : w6.cell? ⟨w.heap.size, 0, none⟩ = some (.slice none 0 0) := cell_blk HG6.out rfl
  have d1 : w6.cell? ⟨w.heap.size, 1, none⟩ = some (.slice none 0 0) := cell_blk HG6.out rfl
  have d2 : w6.cell? ⟨w.heap.size, 2, none⟩ = some (.slice (some ⟨g, 0, none⟩) 1 c) := cell_blk HG6.out rfl
  have d3 : w6.cell? ⟨w.heap.size, 3, none⟩ = some (.int .i64 0) := cell_blk HG6.out rfl
  have d4 : w6.cell? ⟨w.heap.size, 4, none⟩ = some (.int .i64 0) := cell_blk HG6.out rfl
  have d5 : w6.cell? ⟨w.heap.size, 5, none⟩ = some (.int .i64 1) := cell_blk HG6.out rfl
  have d6 : w6.cell? ⟨w.heap.size, 6, none⟩ = some (.int .i64 1) := cell_blk HG6.out rfl
  have d7 : w6.cell? ⟨w.heap.size, 7, none⟩ = some (.int .i64 1) := cell_blk HG6.out rfl
  go_wp2_with fail
  refine (within_yes (by omega) (by omega) _).mono ?_
  rintro e w7 ⟨rfl, rfl⟩
  go_wp2_with fail
  refine (within_yes (by omega) (by omega) _).mono ?_
  rintro e w7 ⟨rfl, rfl⟩
  go_wp2_with fail
  refine (rightOwner_yes ⟨by omega, by omega⟩ ⟨by omega, by omega⟩ ⟨by omega, by omega⟩ _).mono ?_
  rintro e w7 ⟨rfl, hb7⟩
  have HB7 := Lib.hid (HB6.out.trans (hb7.mono HB6.out.size))
  clear hb7
  go_wp2_with fail
  go_ret
  exact ⟨rfl, HB7.out⟩

end Go.Proofs.YtbdgcfimbblncaaGreatDoor
end PkMC5_0
section PkMC5_1
/- Manifests: outdated, remaining, Mark of layer 13, walked. Written by genmfe.py. -/
namespace Go.Proofs.YtbdgcfimbblncaaGreatDoor
open Go.RowKit LabPlain
set_option linter.unusedVariables false

set_option maxRecDepth 100000 in
set_option maxHeartbeats 4000000 in
theorem lookO_nil (x y z : Int) (f : Value) (w : World) :
    Calls Tryz.prog 100 #[.slice none 0 0, .agg #[.int .i64 x, .int .i64 y, .int .i64 z], f] w fun e w' => e = .returned (.tuple #[.agg #[.int .i64 0, .int .i64 0, .int .i64 0], .bool false]) ∧ Below w.heap.size w w' := by
  obtain ⟨wa, hwa⟩ : ∃ wa, wa = w.alloc (.cells #[.int .i64 x, .int .i64 y, .int .i64 z] 45) := ⟨_, rfl⟩
  obtain ⟨wb, hwb⟩ : ∃ wb, wb = wa.alloc (.cells #[.int .i64 0, .int .i64 0, .int .i64 0] 45) := ⟨_, rfl⟩
  have sa : wa.heap.size = w.heap.size + 1 := by rw [hwa]; exact Array.size_push _
  have sb : wb.heap.size = w.heap.size + 2 := by rw [hwb]; show (wa.heap.push _).size = _; rw [Array.size_push, sa]
  have ba : Below w.heap.size w wa := by rw [hwa]; exact (Below.refl _ _).alloc (Nat.le_refl _) _
  have bb : Below w.heap.size w wb := by rw [hwb]; exact ba.alloc ba.size _
  have gb : wb.heap[w.heap.size + 1]? = some (.cells #[.int .i64 0, .int .i64 0, .int .i64 0] 45 (0, 0)) := by rw [hwb, ← sa]; exact heap_alloc_new _ _
  have HBB := Lib.hid bb
  have HGB := Lib.hid gb
  have HSB := Lib.hid sb
  have hl5 : w.heap.size + 1 < wb.heap.size := by omega
  have HWB := Lib.hid (show (w.alloc (.cells #[.int .i64 x, .int .i64 y, .int .i64 z] 45)).alloc (.cells #[.int .i64 0, .int .i64 0, .int .i64 0] 45) = wb from by rw [hwb, hwa])
  have r0 : wb.cell? ⟨w.heap.size + 1, 0, none⟩ = some (.int .i64 0) := cell_blk gb rfl
  have r1 : wb.cell? ⟨w.heap.size + 1, 1, none⟩ = some (.int .i64 0) := cell_blk gb rfl
  have r2 : wb.cell? ⟨w.heap.size + 1, 2, none⟩ = some (.int .i64 0) := cell_blk gb rfl
  have f0 : wb.frozen? ⟨w.heap.size + 1, 0, none⟩ = false := fro_blk gb 0
  have f1 : wb.frozen? ⟨w.heap.size + 1, 1, none⟩ = false := fro_blk gb 1
  have f2 : wb.frozen? ⟨w.heap.size + 1, 2, none⟩ = false := fro_blk gb 2
  clear hwb hwa sa ba bb gb
  go_enter Tryz.func100, Tryz.ntmps100
  go_wp2_with fail
  rw [HWB.out]
  refine wp_loop_rounds 1 ?_
  rw [rounds_succ]
  go_wp2_with fail
  refine bodyPost_ret (ret_cell_tmp rfl _ _ (w.heap.size + 1) 45 #[.int .i64 0, .int .i64 0, .int .i64 0] _ _ rfl ((hao9 _ _ _ (by simpa using hl5)).trans (setO HGB.out 0 0 0)) Tryz.underlying45 rfl (by kernel_rfl)) rfl ?_
  exact ⟨rfl, (belowO HBB.out (by omega) 0 0 0).alloc (by simp; have := HSB.out; omega) _⟩

set_option maxRecDepth 100000 in
set_option maxHeartbeats 4000000 in
theorem mark_any {w : World} {s d hz : Int} {ea ma oa : Option Addr} {en ec mn mc on oc : Nat} {l : List (Int × Int)} (h : VecAt MarkS w ma mn mc l) (x : Int) :
    Calls Tryz.prog 19 #[.agg #[.int .i64 s, .int .i64 d, .int .i64 hz, .slice ea en ec, .slice ma mn mc, .slice oa on oc], .int .i64 x] w fun e w' => e = .returned (.int .i64 ((l.find? fun y => decide (y.1 = x)).getD (0, 0)).2) ∧ Below w.heap.size w w' := by
  obtain ⟨wa, hwa⟩ : ∃ wa, wa = w.alloc (.cells #[.int .i64 s, .int .i64 d, .int .i64 hz, .slice ea en ec, .slice ma mn mc, .slice oa on oc] 26) := ⟨_, rfl⟩
  have ba : Below w.heap.size w wa := by rw [hwa]; exact (Below.refl _ _).alloc (Nat.le_refl _) _
  have ga : wa.heap[w.heap.size]? = some (.cells #[.int .i64 s, .int .i64 d, .int .i64 hz, .slice ea en ec, .slice ma mn mc, .slice oa on oc] 26 (0, 0)) := by rw [hwa]; exact heap_alloc_new _ _
  have HLK := Lib.hid (lookM_any (h.kept ba) x 0)
  have HBA := Lib.hid ba
  have HWA := Lib.hid hwa
  have c4 : wa.cell? ⟨w.heap.size, 4, none⟩ = some (.slice ma mn mc) := cell_blk ga rfl
  clear hwa ba ga h
  go_enter Tryz.func19, Tryz.ntmps19
  go_wp2_with fail
  rw [← HWA.out]
  refine HLK.out.mono ?_
  rintro e w1 ⟨hl, hb⟩
  obtain ⟨r, hr⟩ : ∃ r, r = (l.find? fun y => decide (y.1 = x)).getD (0, 0) := ⟨_, rfl⟩
  obtain ⟨fd, hfd⟩ : ∃ fd, fd = (l.find? fun y => decide (y.1 = x)).isSome := ⟨_, rfl⟩
  obtain rfl : e = .returned (.tuple #[.agg #[.int .i64 r.1, .int .i64 r.2], .bool fd]) := by rw [hr, hfd]; exact hl
  have HR := Lib.hid hr
  have HB := Lib.hid (HBA.out.trans (hb.mono HBA.out.size))
  clear hb hr hfd hl
  obtain ⟨r1, r2⟩ := r
  go_wp2_with fail
  go_ret
  exact ⟨by rw [← HR.out]; rfl, HB.out.alloc HB.out.size _⟩

set_option maxRecDepth 100000 in
set_option maxHeartbeats 4000000 in
theorem outdated_no {w : World} {g c : Nat} (h : VecAt MarkS w (some ⟨g, 0, none⟩) 1 c [(1, 5)]) :
    Calls Tryz.prog 64 #[.agg #[.int .i64 0, .int .i64 0, .int .i64 0, .slice none 0 0, .slice none 0 0, .slice none 0 0], .agg #[.slice none 0 0, .slice none 0 0, .slice (some ⟨g, 0, none⟩) 1 c, .int .i64 0, .int .i64 0, .int .i64 1, .int .i64 1, .int .i64 1]] w fun e w' => e = .returned (.int .i64 0) ∧ Below w.heap.size w w' := by
  have hcap := h.cap
  have hcm := h.capm
  obtain ⟨wa, hwa⟩ : ∃ wa, wa = w.alloc (.cells #[.int .i64 0, .int .i64 0, .int .i64 0, .slice none 0 0, .slice none 0 0, .slice none 0 0] 26) := ⟨_, rfl⟩
  obtain ⟨wb, hwb⟩ : ∃ wb, wb = wa.alloc (.cells #[.slice none 0 0, .slice none 0 0, .slice (some ⟨g, 0, none⟩) 1 c, .int .i64 0, .int .i64 0, .int .i64 1, .int .i64 1, .int .i64 1] 48) := ⟨_, rfl⟩
  have sa : wa.heap.size = w.heap.size + 1 := by rw [hwa]; exact Array.size_push _
  have sb : wb.heap.size = w.heap.size + 2 := by rw [hwb]; show (wa.heap.push _).size = _; rw [Array.size_push, sa]
  have ba : Below w.heap.size w wa := by rw [hwa]; exact (Below.refl _ _).alloc (Nat.le_refl _) _
  have bb : Below w.heap.size w wb := by rw [hwb]; exact ba.alloc ba.size _
  have gb : wb.heap[w.heap.size + 1]? = some (.cells #[.slice none 0 0, .slice none 0 0, .slice (some ⟨g, 0, none⟩) 1 c, .int .i64 0, .int .i64 0, .int .i64 1, .int .i64 1, .int .i64 1] 48 (0, 0)) := by rw [hwb, ← sa]; exact heap_alloc_new _ _
  have ga : wb.heap[w.heap.size]? = some (.cells #[.int .i64 0, .int .i64 0, .int .i64 0, .slice none 0 0, .slice none 0 0, .slice none 0 0] 26 (0, 0)) := by rw [hwb, hao9 _ _ _ (by omega), hwa]; exact heap_alloc_new _ _
  have HBB := Lib.hid bb
  have HGA := Lib.hid ga
  have HGB := Lib.hid gb
  have HSB := Lib.hid sb
  have HH := Lib.hid h
  have HWB := Lib.hid (show (w.alloc (.cells #[.int .i64 0, .int .i64 0, .int .i64 0, .slice none 0 0, .slice none 0 0, .slice none 0 0] 26)).alloc (.cells #[.slice none 0 0, .slice none 0 0, .slice (some ⟨g, 0, none⟩) 1 c, .int .i64 0, .int .i64 0, .int .i64 1, .int .i64 1, .int .i64 1] 48) = wb from by rw [hwb, hwa])
  have HLK := Lib.hid (lookO_nil 1 1 1 (.func (.func 43) #[] #[]) wb)
  have a0 : wb.cell? ⟨w.heap.size, 0, none⟩ = some (.int .i64 0) := cell_blk ga rfl
  have a1 : wb.cell? ⟨w.heap.size, 1, none⟩ = some (.int .i64 0) := cell_blk ga rfl
  have a2 : wb.cell? ⟨w.heap.size, 2, none⟩ = some (.int .i64 0) := cell_blk ga rfl
  have a3 : wb.cell? ⟨w.heap.size, 3, none⟩ = some (.slice none 0 0) := cell_blk ga rfl
  have a4 : wb.cell? ⟨w.heap.size, 4, none⟩ = some (.slice none 0 0) := cell_blk ga rfl
  have a5 : wb.cell? ⟨w.heap.size, 5, none⟩ = some (.slice none 0 0) := cell_blk ga rfl
  have b0 : wb.cell? ⟨w.heap.size + 1, 0, none⟩ = some (.slice none 0 0) := cell_blk gb rfl
  have b1 : wb.cell? ⟨w.heap.size + 1, 1, none⟩ = some (.slice none 0 0) := cell_blk gb rfl
  have b2 : wb.cell? ⟨w.heap.size + 1, 2, none⟩ = some (.slice (some ⟨g, 0, none⟩) 1 c) := cell_blk gb rfl
  have b3 : wb.cell? ⟨w.heap.size + 1, 3, none⟩ = some (.int .i64 0) := cell_blk gb rfl
  have b4 : wb.cell? ⟨w.heap.size + 1, 4, none⟩ = some (.int .i64 0) := cell_blk gb rfl
  have b5 : wb.cell? ⟨w.heap.size + 1, 5, none⟩ = some (.int .i64 1) := cell_blk gb rfl
  have b6 : wb.cell? ⟨w.heap.size + 1, 6, none⟩ = some (.int .i64 1) := cell_blk gb rfl
  have b7 : wb.cell? ⟨w.heap.size + 1, 7, none⟩ = some (.int .i64 1) := cell_blk gb rfl
  clear hwb hwa sa sb ba bb gb ga h
  go_enter Tryz.func64, Tryz.ntmps64
  go_wp2_with fail
  rw [HWB.out]
  go_wp2_with fail
  refine HLK.out.mono ?_
  rintro e w1 ⟨rfl, hb1⟩
  obtain ⟨w2, hw2⟩ : ∃ w2, w2 = w1.alloc (.cells #[.int .i64 0, .int .i64 0, .int .i64 0] 45) := ⟨_, rfl⟩
  have hb2 : Below wb.heap.size wb w2 := by rw [hw2]; exact hb1.alloc hb1.size _
  have HB2 := Lib.hid (HBB.out.trans (hb2.mono HBB.out.size))
  have HBK := Lib.hid hb2
  have HW2 := Lib.hid hw2
  have HGA2 := Lib.hid ((hb2.block w.heap.size (by have := HSB.out; omega)).trans HGA.out)
  have HGB2 := Lib.hid ((hb2.block (w.heap.size + 1) (by have := HSB.out; omega)).trans HGB.out)
  have hg1 := (hb1.block (w.heap.size + 1) (by have := HSB.out; omega)).trans HGB.out
  have hl1 : w.heap.size + 1 < w1.heap.size := (Array.getElem?_eq_some_iff.1 hg1).1
  have e0 : w1.cell? ⟨w.heap.size + 1, 0, none⟩ = some (.slice none 0 0) := cell_blk hg1 rfl
  have e1 : w1.cell? ⟨w.heap.size + 1, 1, none⟩ = some (.slice none 0 0) := cell_blk hg1 rfl
  have e2 : w1.cell? ⟨w.heap.size + 1, 2, none⟩ = some (.slice (some ⟨g, 0, none⟩) 1 c) := cell_blk hg1 rfl
  have e3 : w1.cell? ⟨w.heap.size + 1, 3, none⟩ = some (.int .i64 0) := cell_blk hg1 rfl
  have e4 : w1.cell? ⟨w.heap.size + 1, 4, none⟩ = some (.int .i64 0) := cell_blk hg1 rfl
  have e5 : w1.cell? ⟨w.heap.size + 1, 5, none⟩ = some (.int .i64 1) := cell_blk hg1 rfl
  have e6 : w1.cell? ⟨w.heap.size + 1, 6, none⟩ = some (.int .i64 1) := cell_blk hg1 rfl
  have e7 : w1.cell? ⟨w.heap.size + 1, 7, none⟩ = some (.int .i64 1) := cell_blk hg1 rfl
  clear hb1 hb2 hw2 hg1
  go_wp2_with fail
  rw [← HW2.out]
  go_loopw [8, 45] (fun _ s45 wr => ∃ k : Nat, k ≤ 1 ∧ s45 = .int .i64 (k : Int) ∧ Hid (Below w2.heap.size w2 wr)) (fun _ s45 _ => 1 - (intOf s45).toNat)
  case atStart => exact ⟨0, by omega, rfl, Lib.hid (Below.refl _ _)⟩
  case round =>
    obtain ⟨k, hk, rfl, HB⟩ := hrel
    rename World => wr
    by_cases hkn : k = 0
    · subst hkn
      obtain ⟨sb, so, hsb, hsl, _, hsc9⟩ := ((HH.out.kept HB2.out).kept HB.out).get (show 0 < 1 by omega)
      obtain ⟨rfl, rfl, _⟩ := hsb
      have d0 : wr.cell? ⟨g, 0, none⟩ = some (.int .i64 1) := by simpa using hsc9 0 _ rfl
      have d1 : wr.cell? ⟨g, 0 + 1, none⟩ = some (.int .i64 5) := by simpa using hsc9 1 _ rfl
      have HXA := Lib.hid (heap_alloc_new wr (.cells #[.int .i64 1, .int .i64 5] 43))
      have HXL := Lib.hid ((Array.getElem?_eq_some_iff.1 (heap_alloc_new wr (.cells #[.int .i64 1, .int .i64 5] 43))).1)
      have HAL := Lib.hid (show Below w2.heap.size w2 (wr.alloc (.cells #[.int .i64 1, .int .i64 5] 43)) from HB.out.alloc HB.out.size _)
      have HMA := Lib.hid ((HAL.out.block w.heap.size (Array.getElem?_eq_some_iff.1 HGA2.out).1).trans HGA2.out)
      have HML := Lib.hid ((Array.getElem?_eq_some_iff.1 HMA.out).1)
      clear hsc9 hsl
      go_wp2_with fail
      refine wp_region_fill (by kernel_rfl) (by kernel_rfl) (by kernel_rfl) (Below (wr.alloc (.cells #[.int .i64 1, .int .i64 5] 43)).heap.size (wr.alloc (.cells #[.int .i64 1, .int .i64 5] 43))) (FV (fun j_9 => match j_9 with | 0 => some (.pointer (some ⟨wr.heap.size, 1, none⟩)) | 1 => some (.int .i64 5) | 2 => some (.agg #[.int .i64 0, .int .i64 0, .int .i64 0, .slice none 0 0, .slice none 0 0, .slice none 0 0]) | 3 => some (.pointer (some ⟨wr.heap.size, 0, none⟩)) | 4 => some (.int .i64 1) | 5 => some (.int .i64 0) | 6 => some (.bool false) | _ => none) (fun _ _ => True)) (Below.refl _ _).drew ?_ ?_
      · intro i9 o ho V w9 K hJ hdep hK
        have HJ := Lib.hid hJ
        simp only [fill, slotOf, List.size_toArray, List.length_cons, List.length_nil, Nat.reduceAdd, List.getElem?_toArray, List.getElem?_cons_zero, List.getElem?_cons_succ, Option.bind_some, Act.put, List.setIfInBounds_toArray, List.set_cons_zero, List.set_cons_succ] at hK ⊢
        have hin : i9 < 7 := (Array.getElem?_eq_some_iff.1 ho).1
        have hcs : i9 = 0 ∨ i9 = 1 ∨ i9 = 2 ∨ i9 = 3 ∨ i9 = 4 ∨ i9 = 5 ∨ i9 = 6 := by omega
        clear hin
        rcases hcs with rfl | rfl | rfl | rfl | rfl | rfl | rfl
        · obtain rfl := Option.some.inj ho.symm
          clear hdep ho hJ
          try simp only [fill, slotOf, List.size_toArray, List.length_cons, List.length_nil, Nat.reduceAdd, List.getElem?_toArray, List.getElem?_cons_zero, List.getElem?_cons_succ, Option.bind_some, Act.put, List.setIfInBounds_toArray, List.set_cons_zero, List.set_cons_succ] at hK ⊢
          go_simp
          exact hK (.pointer (some ⟨wr.heap.size, 1, none⟩)) _ HJ.out rfl (fun j y h => h) _ rfl
        · obtain rfl := Option.some.inj ho.symm
          have d0 : V 0 = .pointer (some ⟨wr.heap.size, 1, none⟩) := hdep ⟨0, .data⟩ (by simp) rfl
          have e1 : w9.cell? ⟨wr.heap.size, 1, none⟩ = some (.int .i64 5) := (hJ.cell (p := ⟨wr.heap.size, 1, none⟩) HXL.out).trans (cell_blk HXA.out rfl)
          clear hdep ho hJ
          try simp only [fill, slotOf, List.size_toArray, List.length_cons, List.length_nil, Nat.reduceAdd, List.getElem?_toArray, List.getElem?_cons_zero, List.getElem?_cons_succ, Option.bind_some, Act.put, List.setIfInBounds_toArray, List.set_cons_zero, List.set_cons_succ] at hK ⊢
          rw [d0] at hK ⊢
          go_simp
          exact hK (.int .i64 5) _ HJ.out rfl (fun j y h => h) _ rfl
        · obtain rfl := Option.some.inj ho.symm
          have m0 : w9.cell? ⟨w.heap.size, 0, none⟩ = some (.int .i64 0) := (hJ.cell (p := ⟨w.heap.size, 0, none⟩) HML.out).trans (cell_blk HMA.out rfl)
          have m1 : w9.cell? ⟨w.heap.size, 1, none⟩ = some (.int .i64 0) := (hJ.cell (p := ⟨w.heap.size, 1, none⟩) HML.out).trans (cell_blk HMA.out rfl)
          have m2 : w9.cell? ⟨w.heap.size, 2, none⟩ = some (.int .i64 0) := (hJ.cell (p := ⟨w.heap.size, 2, none⟩) HML.out).trans (cell_blk HMA.out rfl)
          have m3 : w9.cell? ⟨w.heap.size, 3, none⟩ = some (.slice none 0 0) := (hJ.cell (p := ⟨w.heap.size, 3, none⟩) HML.out).trans (cell_blk HMA.out rfl)
          have m4 : w9.cell? ⟨w.heap.size, 4, none⟩ = some (.slice none 0 0) := (hJ.cell (p := ⟨w.heap.size, 4, none⟩) HML.out).trans (cell_blk HMA.out rfl)
          have m5 : w9.cell? ⟨w.heap.size, 5, none⟩ = some (.slice none 0 0) := (hJ.cell (p := ⟨w.heap.size, 5, none⟩) HML.out).trans (cell_blk HMA.out rfl)
          clear hdep ho hJ
          try simp only [fill, slotOf, List.size_toArray, List.length_cons, List.length_nil, Nat.reduceAdd, List.getElem?_toArray, List.getElem?_cons_zero, List.getElem?_cons_succ, Option.bind_some, Act.put, List.setIfInBounds_toArray, List.set_cons_zero, List.set_cons_succ] at hK ⊢
          go_simp
          exact hK (.agg #[.int .i64 0, .int .i64 0, .int .i64 0, .slice none 0 0, .slice none 0 0, .slice none 0 0]) _ HJ.out rfl (fun j y h => h) _ rfl
        · obtain rfl := Option.some.inj ho.symm
          clear hdep ho hJ
          try simp only [fill, slotOf, List.size_toArray, List.length_cons, List.length_nil, Nat.reduceAdd, List.getElem?_toArray, List.getElem?_cons_zero, List.getElem?_cons_succ, Option.bind_some, Act.put, List.setIfInBounds_toArray, List.set_cons_zero, List.set_cons_succ] at hK ⊢
          go_simp
          exact hK (.pointer (some ⟨wr.heap.size, 0, none⟩)) _ HJ.out rfl (fun j y h => h) _ rfl
        · obtain rfl := Option.some.inj ho.symm
          have d3 : V 3 = .pointer (some ⟨wr.heap.size, 0, none⟩) := hdep ⟨3, .data⟩ (by simp) rfl
          have e0 : w9.cell? ⟨wr.heap.size, 0, none⟩ = some (.int .i64 1) := (hJ.cell (p := ⟨wr.heap.size, 0, none⟩) HXL.out).trans (cell_blk HXA.out rfl)
          clear hdep ho hJ
          try simp only [fill, slotOf, List.size_toArray, List.length_cons, List.length_nil, Nat.reduceAdd, List.getElem?_toArray, List.getElem?_cons_zero, List.getElem?_cons_succ, Option.bind_some, Act.put, List.setIfInBounds_toArray, List.set_cons_zero, List.set_cons_succ] at hK ⊢
          rw [d3] at hK ⊢
          go_simp
          exact hK (.int .i64 1) _ HJ.out rfl (fun j y h => h) _ rfl
        · obtain rfl := Option.some.inj ho.symm
          have d2 : V 2 = .agg #[.int .i64 0, .int .i64 0, .int .i64 0, .slice none 0 0, .slice none 0 0, .slice none 0 0] := hdep ⟨2, .data⟩ (by simp) rfl
          have d4 : V 4 = .int .i64 1 := hdep ⟨4, .data⟩ (by simp) rfl
          clear hdep ho hJ
          try simp only [fill, slotOf, List.size_toArray, List.length_cons, List.length_nil, Nat.reduceAdd, List.getElem?_toArray, List.getElem?_cons_zero, List.getElem?_cons_succ, Option.bind_some, Act.put, List.setIfInBounds_toArray, List.set_cons_zero, List.set_cons_succ] at hK ⊢
          rw [d2, d4] at hK ⊢
          go_simp
          refine (mark_any (w := w9) (s := 0) (d := 0) (hz := 0) (ea := none) (en := 0) (ec := 0) (oa := none) (on := 0) (oc := 0) (VecAt.empty (S := MarkS) w9 none 0 (by omega) (fun _ => rfl)) 1).mono ?_
          rintro e w8 ⟨rfl, hb8⟩
          exact hK (.int .i64 0) _ (HJ.out.trans (hb8.mono HJ.out.size)) rfl (FV.mono ((fun _ _ _ => trivial) hb8)) _ rfl
        · obtain rfl := Option.some.inj ho.symm
          have d1 : V 1 = .int .i64 5 := hdep ⟨1, .data⟩ (by simp) rfl
          have d5 : V 5 = .int .i64 0 := hdep ⟨5, .data⟩ (by simp) rfl
          clear hdep ho hJ
          try simp only [fill, slotOf, List.size_toArray, List.length_cons, List.length_nil, Nat.reduceAdd, List.getElem?_toArray, List.getElem?_cons_zero, List.getElem?_cons_succ, Option.bind_some, Act.put, List.setIfInBounds_toArray, List.set_cons_zero, List.set_cons_succ] at hK ⊢
          rw [d1, d5] at hK ⊢
          go_simp
          exact hK (.bool false) _ HJ.out rfl (fun j y h => h) _ rfl
      · intro V w9 hJ hall
        have dL : V 6 = .bool false := hall 6 (by decide)
        have HJ9 := Lib.hid hJ
        clear hall hJ
        simp only [fill, slotOf, List.size_toArray, List.length_cons, List.length_nil, Nat.reduceAdd, List.getElem?_toArray, List.getElem?_cons_zero, List.getElem?_cons_succ, Option.bind_some, Act.put, List.setIfInBounds_toArray, List.set_cons_zero, List.set_cons_succ]
        rw [dL]
        clear dL
        have HBZ := Lib.hid (HAL.out.trans (HJ9.out.mono HAL.out.size))
        go_wp2_with fail
        go_roundw
        case rel => exact ⟨1, by omega, rfl, HBZ⟩
        case measure => simp [intOf]
    · obtain rfl : k = 1 := by omega
      go_wp2_with fail
      go_ret
      exact ⟨rfl, HB2.out.trans (HB.out.mono HB2.out.size)⟩

set_option maxRecDepth 100000 in
set_option maxHeartbeats 4000000 in
theorem remaining_nil (g c : Nat) (w : World) :
    Calls Tryz.prog 65 #[.agg #[.int .i64 0, .int .i64 0, .int .i64 0, .slice none 0 0, .slice none 0 0, .slice none 0 0], .agg #[.slice none 0 0, .slice none 0 0, .slice (some ⟨g, 0, none⟩) 1 c, .int .i64 0, .int .i64 0, .int .i64 1, .int .i64 1, .int .i64 1]] w fun e w' => ∃ b, e = .returned (.tuple #[.map (some b), .int .i64 0]) ∧ NoMap w' b ∧ w.heap.size ≤ b ∧ Below w.heap.size w w' := by
  obtain ⟨wa, hwa⟩ : ∃ wa, wa = w.alloc (.cells #[.int .i64 0, .int .i64 0, .int .i64 0, .slice none 0 0, .slice none 0 0, .slice none 0 0] 26) := ⟨_, rfl⟩
  obtain ⟨wb, hwb⟩ : ∃ wb, wb = wa.alloc (.cells #[.slice none 0 0, .slice none 0 0, .slice (some ⟨g, 0, none⟩) 1 c, .int .i64 0, .int .i64 0, .int .i64 1, .int .i64 1, .int .i64 1] 48) := ⟨_, rfl⟩
  obtain ⟨wc, hwc⟩ : ∃ wc, wc = wb.alloc (.map #[] 0) := ⟨_, rfl⟩
  have sa : wa.heap.size = w.heap.size + 1 := by rw [hwa]; exact Array.size_push _
  have sb : wb.heap.size = w.heap.size + 2 := by rw [hwb]; show (wa.heap.push _).size = _; rw [Array.size_push, sa]
  have ba : Below w.heap.size w wa := by rw [hwa]; exact (Below.refl _ _).alloc (Nat.le_refl _) _
  have bb : Below w.heap.size w wb := by rw [hwb]; exact ba.alloc ba.size _
  have bc : Below w.heap.size w wc := by rw [hwc]; exact bb.alloc bb.size _
  have gb : wc.heap[w.heap.size + 1]? = some (.cells #[.slice none 0 0, .slice none 0 0, .slice (some ⟨g, 0, none⟩) 1 c, .int .i64 0, .int .i64 0, .int .i64 1, .int .i64 1, .int .i64 1] 48 (0, 0)) := by rw [hwc, hao9 _ _ _ (by omega), hwb, ← sa]; exact heap_alloc_new _ _
  have ga : wc.heap[w.heap.size]? = some (.cells #[.int .i64 0, .int .i64 0, .int .i64 0, .slice none 0 0, .slice none 0 0, .slice none 0 0] 26 (0, 0)) := by rw [hwc, hao9 _ _ _ (by omega), hwb, hao9 _ _ _ (by omega), hwa]; exact heap_alloc_new _ _
  have HNM := Lib.hid (show NoMap wc wb.heap.size from by rw [hwc]; exact NoMap.made wb)
  have HBC := Lib.hid bc
  have HWB := Lib.hid (show (w.alloc (.cells #[.int .i64 0, .int .i64 0, .int .i64 0, .slice none 0 0, .slice none 0 0, .slice none 0 0] 26)).alloc (.cells #[.slice none 0 0, .slice none 0 0, .slice (some ⟨g, 0, none⟩) 1 c, .int .i64 0, .int .i64 0, .int .i64 1, .int .i64 1, .int .i64 1] 48) = wb from by rw [hwb, hwa])
  have HWC := Lib.hid (show wb.alloc (.map #[] 0) = wc from hwc.symm)
  have HSB := Lib.hid sb
  have a0 : wc.cell? ⟨w.heap.size, 0, none⟩ = some (.int .i64 0) := cell_blk ga rfl
  have a1 : wc.cell? ⟨w.heap.size, 1, none⟩ = some (.int .i64 0) := cell_blk ga rfl
  have a2 : wc.cell? ⟨w.heap.size, 2, none⟩ = some (.int .i64 0) := cell_blk ga rfl
  have a3 : wc.cell? ⟨w.heap.size, 3, none⟩ = some (.slice none 0 0) := cell_blk ga rfl
  have a4 : wc.cell? ⟨w.heap.size, 4, none⟩ = some (.slice none 0 0) := cell_blk ga rfl
  have a5 : wc.cell? ⟨w.heap.size, 5, none⟩ = some (.slice none 0 0) := cell_blk ga rfl
  have b0 : wc.cell? ⟨w.heap.size + 1, 0, none⟩ = some (.slice none 0 0) := cell_blk gb rfl
  have b1 : wc.cell? ⟨w.heap.size + 1, 1, none⟩ = some (.slice none 0 0) := cell_blk gb rfl
  have b2 : wc.cell? ⟨w.heap.size + 1, 2, none⟩ = some (.slice (some ⟨g, 0, none⟩) 1 c) := cell_blk gb rfl
  have b3 : wc.cell? ⟨w.heap.size + 1, 3, none⟩ = some (.int .i64 0) := cell_blk gb rfl
  have b4 : wc.cell? ⟨w.heap.size + 1, 4, none⟩ = some (.int .i64 0) := cell_blk gb rfl
  have b5 : wc.cell? ⟨w.heap.size + 1, 5, none⟩ = some (.int .i64 1) := cell_blk gb rfl
  have b6 : wc.cell? ⟨w.heap.size + 1, 6, none⟩ = some (.int .i64 1) := cell_blk gb rfl
  have b7 : wc.cell? ⟨w.heap.size + 1, 7, none⟩ = some (.int .i64 1) := cell_blk gb rfl
  clear hwb hwa hwc sa sb ba bb bc gb ga
  have hmap := @run_makeMap Tryz.prog
  go_enter Tryz.func65, Tryz.ntmps65
  go_wp2_with fail
  rw [HWB.out, HWC.out]
  go_wp2_with fail
  refine wp_loop_rounds 1 ?_
  rw [rounds_succ]
  go_wp2_with fail
  refine wp_loop_rounds 1 ?_
  rw [rounds_succ]
  go_wp2_with fail
  refine wp_loop_rounds 1 ?_
  rw [rounds_succ]
  go_wp2_with fail
  refine wp_loop_rounds 1 ?_
  rw [rounds_succ]
  go_wp2_with fail
  first | go_ret2 | go_ret
  exact ⟨w.heap.size + 1 + 1, rfl, by have e := HNM.out; rw [HSB.out] at e; exact e, by omega, HBC.out⟩

end Go.Proofs.YtbdgcfimbblncaaGreatDoor
end PkMC5_1
section PkMC5_2
/- Manifests: layer 13's fixed edit, made on the manifest of nothing, walked. Written by genmfg.py. -/
namespace Go.Proofs.YtbdgcfimbblncaaGreatDoor
open Go.RowKit LabPlain
set_option linter.unusedVariables false

/-- what a store into one cell leaves -/
structure SetAt (w : World) (B : Nat) (cs : Array Value) (t : TypeId) (w' : World) : Prop where
  row : w'.heap[B]? = some (.cells cs t (0, 0))
  other : ∀ k, k ≠ B → w'.heap[k]? = w.heap[k]?
theorem cells_set {w : World} {B : Nat} {cs : Array Value} {t : TypeId} (g : w.heap[B]? = some (.cells cs t (0, 0))) (i : Nat) (u : Value) : SetAt w B (cs.setIfInBounds i u) t (w.setCell ⟨B, i, none⟩ u) :=
  ⟨heap_set g i u, fun k hk => Below.heap_setCell w _ u k hk⟩
theorem vec_set {α : Type} {S : Sty α} {w : World} {a : Option Addr} {n c : Nat} {l : List α} {B i : Nat} {u : Value} (h : VecAt S w a n c l) (hok : ∀ x, S.ok w x → S.ok (w.setCell ⟨B, i, none⟩ u) x) (hne : ∀ b off s, a = some ⟨b, off, s⟩ → b ≠ B) : VecAt S (w.setCell ⟨B, i, none⟩ u) a n c l :=
  ⟨h.len, h.cap, h.capm, h.nl, fun x hx => hok x (h.all x hx), fun hn => by
    obtain ⟨b, off, ha, hlt, hc⟩ := h.cells hn
    have hb : (w.setCell ⟨B, i, none⟩ u).heap[b]? = w.heap[b]? := Below.heap_setCell w _ u b (hne b off none ha)
    refine ⟨b, off, ha, by simpa using hlt, fun i hi j v hv => ?_⟩
    exact (World.cell?_of_block (w := w) (a := ⟨b, _, none⟩) hb).trans (hc i hi j v hv)⟩
theorem clone_nilO' (w : World) : Calls Tryz.prog 73 #[.slice none 0 0] w fun e w' => e = .returned (.slice none 0 0) ∧ Below w.heap.size w w' :=
  (clone_nilO w).mono (fun e w' h => ⟨h.1, by rw [h.2]; exact Below.refl _ _⟩)
/-- a world in which the made manifest's last cell may have been set -/
structure JpA (w0 W : World) (B : Nat) (E M : Value) (w' : World) : Prop where
  below : Below w0.heap.size w0 w'
  size : W.heap.size ≤ w'.heap.size
  old : ∀ k, k < W.heap.size → k ≠ B → w'.heap[k]? = W.heap[k]?
  row : ∃ x, w'.heap[B]? = some (.cells #[.int .i64 1, .int .i64 0, .int .i64 0, E, M, x] 26 (0, 0))
theorem JpA.lt {w0 W w' : World} {B : Nat} {E M : Value} (h : JpA w0 W B E M w') : B < w'.heap.size := by
  obtain ⟨x, hx⟩ := h.row
  exact (Array.getElem?_eq_some_iff.1 hx).1
theorem JpA.trans {w0 W w' w'' : World} {B : Nat} {E M : Value} (h : JpA w0 W B E M w') (hb : Below w'.heap.size w' w'') : JpA w0 W B E M w'' :=
  ⟨h.below.trans (hb.mono h.below.size), Nat.le_trans h.size hb.size, fun k hk hn => (hb.block k (Nat.lt_of_lt_of_le hk h.size)).trans (h.old k hk hn), by
    obtain ⟨x, hx⟩ := h.row
    exact ⟨x, (hb.block B h.lt).trans hx⟩⟩
theorem JpA.drew {w0 W w' : World} {B : Nat} {E M : Value} (h : JpA w0 W B E M w') : JpA w0 W B E M w'.drew := ⟨h.below.drew, h.size, h.old, h.row⟩
theorem JpA.set {w0 W w' : World} {B : Nat} {E M : Value} (h : JpA w0 W B E M w') (hB : w0.heap.size ≤ B) (u : Value) : JpA w0 W B E M (w'.setCell ⟨B, 5, none⟩ u) := by
  obtain ⟨x, hx⟩ := h.row
  exact ⟨h.below.setCell hB u, by simpa using h.size, fun k hk hn => ((cells_set hx 5 u).other k hn).trans (h.old k hk hn), u, (cells_set hx 5 u).row⟩
/-- what the owners' row and the store of it leave -/
@[reducible] def SpA (B : Nat) (E M : Value) (j : Nat) (u : Value) (w : World) : Prop := match j with
  | 5 => ∃ g2 c2, u = .slice (some ⟨g2, 0, none⟩) 1 c2 ∧ B < g2 ∧ VecAt OwnS w (some ⟨g2, 0, none⟩) 1 c2 [(1, 1, 1)]
  | 7 => ∃ g2 c2, w.heap[B]? = some (.cells #[.int .i64 1, .int .i64 0, .int .i64 0, E, M, .slice (some ⟨g2, 0, none⟩) 1 c2] 26 (0, 0)) ∧ VecAt OwnS w (some ⟨g2, 0, none⟩) 1 c2 [(1, 1, 1)] ∧ B < g2
  | _ => True
theorem SpA.at5 {B : Nat} {E M : Value} {w : World} {g2 c2 : Nat} (h : B < g2) (hv : VecAt OwnS w (some ⟨g2, 0, none⟩) 1 c2 [(1, 1, 1)]) : SpA B E M 5 (.slice (some ⟨g2, 0, none⟩) 1 c2) w := ⟨g2, c2, rfl, h, hv⟩
theorem SpA.mono {B : Nat} {E M : Value} {w w' : World} (hB : B < w.heap.size) (h : Below w.heap.size w w') : ∀ j u, SpA B E M j u w → SpA B E M j u w' := by
  intro j u hu
  unfold SpA at hu ⊢
  split at hu
  · obtain ⟨g2, c2, e, h1, h2⟩ := hu
    exact ⟨g2, c2, e, h1, h2.kept h⟩
  · obtain ⟨g2, c2, h1, h2, h3⟩ := hu
    exact ⟨g2, c2, (h.block B hB).trans h1, h2.kept h, h3⟩
  · trivial
theorem SpA.at7 {B : Nat} {E M x : Value} {w : World} {g2 c2 : Nat} {u : Value} (h : B < g2) (hx : w.heap[B]? = some (.cells #[.int .i64 1, .int .i64 0, .int .i64 0, E, M, x] 26 (0, 0))) (hv : VecAt OwnS w (some ⟨g2, 0, none⟩) 1 c2 [(1, 1, 1)]) : SpA B E M 7 u (w.setCell ⟨B, 5, none⟩ (.slice (some ⟨g2, 0, none⟩) 1 c2)) :=
  ⟨g2, c2, (cells_set hx 5 _).row, vec_set hv (fun _ h => h) (fun b off s e => by cases e; omega), h⟩
theorem SpA.set {B : Nat} {E M x : Value} {w : World} {g2 c2 : Nat} (h : B < g2) (hx : w.heap[B]? = some (.cells #[.int .i64 1, .int .i64 0, .int .i64 0, E, M, x] 26 (0, 0))) (hv : VecAt OwnS w (some ⟨g2, 0, none⟩) 1 c2 [(1, 1, 1)]) : ∀ j u, SpA B E M j u w → SpA B E M j u (w.setCell ⟨B, 5, none⟩ (.slice (some ⟨g2, 0, none⟩) 1 c2)) := by
  intro j u hu
  by_cases h7 : j = 7
  · subst h7
    exact SpA.at7 h hx hv
  · unfold SpA at hu ⊢
    split at hu
    · obtain ⟨g3, c3, e, h1, h2⟩ := hu
      exact ⟨g3, c3, e, h1, vec_set h2 (fun _ h => h) (fun b off s e => by cases e; omega)⟩
    · exact absurd rfl h7
    · trivial
theorem VecAt.kept2 {w0 W w' : World} {B g n c : Nat} {E M : Value} {l : List (Int × Int)} (h : VecAt MarkS W (some ⟨g, 0, none⟩) n c l) (hj : JpA w0 W B E M w') (hg : B < g) : VecAt MarkS w' (some ⟨g, 0, none⟩) n c l :=
  ⟨h.len, h.cap, h.capm, h.nl, fun _ _ => trivial, fun hn => by
    obtain ⟨b, off, ha, hlt, hc⟩ := h.cells hn
    have hb : w'.heap[b]? = W.heap[b]? := hj.old b hlt (by cases ha; omega)
    refine ⟨b, off, ha, Nat.lt_of_lt_of_le hlt hj.size, fun i hi j v hv => ?_⟩
    exact (World.cell?_of_block (w := W) (a := ⟨b, _, none⟩) hb).trans (hc i hi j v hv)⟩
/-- a manifest's six cells, set -/
theorem set6 {v : World} {R : Nat} {c0 c1 c2 c3 c4 c5 : Value} {t : TypeId} (g : v.heap[R]? = some (.cells #[c0, c1, c2, c3, c4, c5] t (0, 0))) (x0 x1 x2 x3 x4 x5 : Value) : ((((((v.setCell ⟨R, 0, none⟩ x0).setCell ⟨R, 1, none⟩ x1).setCell ⟨R, 2, none⟩ x2).setCell ⟨R, 3, none⟩ x3).setCell ⟨R, 4, none⟩ x4).setCell ⟨R, 5, none⟩ x5).heap[R]? = some (.cells #[x0, x1, x2, x3, x4, x5] t (0, 0)) := by
  have h := heap_set (heap_set (heap_set (heap_set (heap_set (heap_set g 0 x0) 1 x1) 2 x2) 3 x3) 4 x4) 5 x5
  simp only [List.setIfInBounds_toArray, List.set_cons_zero, List.set_cons_succ] at h
  exact h
theorem below6 {B R : Nat} {w v : World} (h : Below B w v) (hR : B ≤ R) (x0 x1 x2 x3 x4 x5 : Value) : Below B w ((((((v.setCell ⟨R, 0, none⟩ x0).setCell ⟨R, 1, none⟩ x1).setCell ⟨R, 2, none⟩ x2).setCell ⟨R, 3, none⟩ x3).setCell ⟨R, 4, none⟩ x4).setCell ⟨R, 5, none⟩ x5) :=
  (((((h.setCell (p := ⟨R, 0, none⟩) hR x0).setCell (p := ⟨R, 1, none⟩) hR x1).setCell (p := ⟨R, 2, none⟩) hR x2).setCell (p := ⟨R, 3, none⟩) hR x3).setCell (p := ⟨R, 4, none⟩) hR x4).setCell (p := ⟨R, 5, none⟩) hR x5
theorem vec6 {α : Type} {S : Sty α} {v : World} {R g : Nat} {n c : Nat} {l : List α} (h : VecAt S v (some ⟨g, 0, none⟩) n c l) (hok : ∀ (w w' : World) x, S.ok w x → S.ok w' x) (hne : g ≠ R) (x0 x1 x2 x3 x4 x5 : Value) : VecAt S ((((((v.setCell ⟨R, 0, none⟩ x0).setCell ⟨R, 1, none⟩ x1).setCell ⟨R, 2, none⟩ x2).setCell ⟨R, 3, none⟩ x3).setCell ⟨R, 4, none⟩ x4).setCell ⟨R, 5, none⟩ x5) (some ⟨g, 0, none⟩) n c l := by
  have hn : ∀ b off s, (some (⟨g, 0, none⟩ : Addr)) = some ⟨b, off, s⟩ → b ≠ R := fun b off s e => by cases e; exact hne
  exact vec_set (vec_set (vec_set (vec_set (vec_set (vec_set h (hok _ _) hn) (hok _ _) hn) (hok _ _) hn) (hok _ _) hn) (hok _ _) hn) (hok _ _) hn

set_option maxRecDepth 100000 in
set_option maxHeartbeats 8000000 in
theorem apply_fix {w : World} {g c : Nat} (h : VecAt MarkS w (some ⟨g, 0, none⟩) 1 c [(1, 5)]) :
    Calls Tryz.prog 18 #[.agg #[.int .i64 0, .int .i64 0, .int .i64 0, .slice none 0 0, .slice none 0 0, .slice none 0 0], .agg #[.slice none 0 0, .slice none 0 0, .slice (some ⟨g, 0, none⟩) 1 c, .int .i64 0, .int .i64 0, .int .i64 1, .int .i64 1, .int .i64 1]] w fun e w' => ∃ ea ec g1 c1 g2 c2, e = .returned (.tuple #[.agg #[.int .i64 1, .int .i64 0, .int .i64 0, .slice ea 0 ec, .slice (some ⟨g1, 0, none⟩) 1 c1, .slice (some ⟨g2, 0, none⟩) 1 c2], .int .i64 0]) ∧ VecAt MarkS w' (some ⟨g1, 0, none⟩) 1 c1 [(1, 5)] ∧ VecAt OwnS w' (some ⟨g2, 0, none⟩) 1 c2 [(1, 1, 1)] ∧ Below w.heap.size w w' := by
  have hcap := h.cap
  have hcm := h.capm
  obtain ⟨wa, hwa⟩ : ∃ wa, wa = w.alloc (.cells #[.int .i64 0, .int .i64 0, .int .i64 0, .slice none 0 0, .slice none 0 0, .slice none 0 0] 26) := ⟨_, rfl⟩
  obtain ⟨wb, hwb⟩ : ∃ wb, wb = wa.alloc (.cells #[.slice none 0 0, .slice none 0 0, .slice (some ⟨g, 0, none⟩) 1 c, .int .i64 0, .int .i64 0, .int .i64 1, .int .i64 1, .int .i64 1] 48) := ⟨_, rfl⟩
  obtain ⟨wc, hwc⟩ : ∃ wc, wc = wb.alloc (.cells #[.int .i64 0, .int .i64 0, .int .i64 0, .slice none 0 0, .slice none 0 0, .slice none 0 0] 26) := ⟨_, rfl⟩
  have sa : wa.heap.size = w.heap.size + 1 := by rw [hwa]; exact Array.size_push _
  have sb : wb.heap.size = w.heap.size + 2 := by rw [hwb]; show (wa.heap.push _).size = _; rw [Array.size_push, sa]
  have ba : Below w.heap.size w wa := by rw [hwa]; exact (Below.refl _ _).alloc (Nat.le_refl _) _
  have bb : Below w.heap.size w wb := by rw [hwb]; exact ba.alloc ba.size _
  have bc : Below w.heap.size w wc := by rw [hwc]; exact bb.alloc bb.size _
  have gc : wc.heap[w.heap.size + 1 + 1]? = some (.cells #[.int .i64 0, .int .i64 0, .int .i64 0, .slice none 0 0, .slice none 0 0, .slice none 0 0] 26 (0, 0)) := by rw [hwc, show w.heap.size + 1 + 1 = wb.heap.size from by omega]; exact heap_alloc_new _ _
  have gb : wc.heap[w.heap.size + 1]? = some (.cells #[.slice none 0 0, .slice none 0 0, .slice (some ⟨g, 0, none⟩) 1 c, .int .i64 0, .int .i64 0, .int .i64 1, .int .i64 1, .int .i64 1] 48 (0, 0)) := by rw [hwc, hao9 _ _ _ (by omega), hwb, ← sa]; exact heap_alloc_new _ _
  have ga : wc.heap[w.heap.size]? = some (.cells #[.int .i64 0, .int .i64 0, .int .i64 0, .slice none 0 0, .slice none 0 0, .slice none 0 0] 26 (0, 0)) := by rw [hwc, hao9 _ _ _ (by omega), hwb, hao9 _ _ _ (by omega), hwa]; exact heap_alloc_new _ _
  have HH := Lib.hid h
  have HBc := Lib.hid bc
  have G2wc := Lib.hid ga
  have G3wc := Lib.hid gb
  have G4wc := Lib.hid gc
  have HWC := Lib.hid (show ((w.alloc (.cells #[.int .i64 0, .int .i64 0, .int .i64 0, .slice none 0 0, .slice none 0 0, .slice none 0 0] 26)).alloc (.cells #[.slice none 0 0, .slice none 0 0, .slice (some ⟨g, 0, none⟩) 1 c, .int .i64 0, .int .i64 0, .int .i64 1, .int .i64 1, .int .i64 1] 48)).alloc (.cells #[.int .i64 0, .int .i64 0, .int .i64 0, .slice none 0 0, .slice none 0 0, .slice none 0 0] 26) = wc from by rw [hwc, hwb, hwa])
  have a0 : wc.cell? ⟨w.heap.size, 0, none⟩ = some (.int .i64 0) := cell_blk ga rfl
  have a1 : wc.cell? ⟨w.heap.size, 1, none⟩ = some (.int .i64 0) := cell_blk ga rfl
  have a2 : wc.cell? ⟨w.heap.size, 2, none⟩ = some (.int .i64 0) := cell_blk ga rfl
  have a3 : wc.cell? ⟨w.heap.size, 3, none⟩ = some (.slice none 0 0) := cell_blk ga rfl
  have a4 : wc.cell? ⟨w.heap.size, 4, none⟩ = some (.slice none 0 0) := cell_blk ga rfl
  have a5 : wc.cell? ⟨w.heap.size, 5, none⟩ = some (.slice none 0 0) := cell_blk ga rfl
  clear hwb hwa hwc sa sb ba bb bc gb ga gc h
  go_enter Tryz.func18, Tryz.ntmps18
  go_wp2_with fail
  rw [HWC.out]
  go_wp2_with fail
  refine (right_zero wc).mono ?_
  rintro e w1 ⟨rfl, hb1⟩
  have HB1 := Lib.hid (HBc.out.trans (hb1.mono HBc.out.size))
  have G2w1 := Lib.hid ((hb1.block (w.heap.size) (Array.getElem?_eq_some_iff.1 G2wc.out).1).trans G2wc.out)
  have G3w1 := Lib.hid ((hb1.block (w.heap.size + 1) (Array.getElem?_eq_some_iff.1 G3wc.out).1).trans G3wc.out)
  have G4w1 := Lib.hid ((hb1.block (w.heap.size + 1 + 1) (Array.getElem?_eq_some_iff.1 G4wc.out).1).trans G4wc.out)
  clear a0 a1 a2 a3 a4 a5
  have e0 : w1.cell? ⟨w.heap.size + 1, 0, none⟩ = some (.slice none 0 0) := cell_blk G3w1.out rfl
  have e1 : w1.cell? ⟨w.heap.size + 1, 1, none⟩ = some (.slice none 0 0) := cell_blk G3w1.out rfl
  have e2 : w1.cell? ⟨w.heap.size + 1, 2, none⟩ = some (.slice (some ⟨g, 0, none⟩) 1 c) := cell_blk G3w1.out rfl
  have e3 : w1.cell? ⟨w.heap.size + 1, 3, none⟩ = some (.int .i64 0) := cell_blk G3w1.out rfl
  have e4 : w1.cell? ⟨w.heap.size + 1, 4, none⟩ = some (.int .i64 0) := cell_blk G3w1.out rfl
  have e5 : w1.cell? ⟨w.heap.size + 1, 5, none⟩ = some (.int .i64 1) := cell_blk G3w1.out rfl
  have e6 : w1.cell? ⟨w.heap.size + 1, 6, none⟩ = some (.int .i64 1) := cell_blk G3w1.out rfl
  have e7 : w1.cell? ⟨w.heap.size + 1, 7, none⟩ = some (.int .i64 1) := cell_blk G3w1.out rfl
  have HRE := Lib.hid (rightEdit_yes (HH.out.kept HB1.out))
  clear hb1
  go_wp2_with fail
  refine HRE.out.mono ?_
  rintro e w2 ⟨rfl, hb2⟩
  have HB2 := Lib.hid (HB1.out.trans (hb2.mono HB1.out.size))
  have G2w2 := Lib.hid ((hb2.block (w.heap.size) (Array.getElem?_eq_some_iff.1 G2w1.out).1).trans G2w1.out)
  have G3w2 := Lib.hid ((hb2.block (w.heap.size + 1) (Array.getElem?_eq_some_iff.1 G3w1.out).1).trans G3w1.out)
  have G4w2 := Lib.hid ((hb2.block (w.heap.size + 1 + 1) (Array.getElem?_eq_some_iff.1 G4w1.out).1).trans G4w1.out)
  clear e0 e1 e2 e3 e4 e5 e6 e7
  have a0 : w2.cell? ⟨w.heap.size, 0, none⟩ = some (.int .i64 0) := cell_blk G2w2.out rfl
  have a1 : w2.cell? ⟨w.heap.size, 1, none⟩ = some (.int .i64 0) := cell_blk G2w2.out rfl
  have a2 : w2.cell? ⟨w.heap.size, 2, none⟩ = some (.int .i64 0) := cell_blk G2w2.out rfl
  have a3 : w2.cell? ⟨w.heap.size, 3, none⟩ = some (.slice none 0 0) := cell_blk G2w2.out rfl
  have a4 : w2.cell? ⟨w.heap.size, 4, none⟩ = some (.slice none 0 0) := cell_blk G2w2.out rfl
  have a5 : w2.cell? ⟨w.heap.size, 5, none⟩ = some (.slice none 0 0) := cell_blk G2w2.out rfl
  have e0 : w2.cell? ⟨w.heap.size + 1, 0, none⟩ = some (.slice none 0 0) := cell_blk G3w2.out rfl
  have e1 : w2.cell? ⟨w.heap.size + 1, 1, none⟩ = some (.slice none 0 0) := cell_blk G3w2.out rfl
  have e2 : w2.cell? ⟨w.heap.size + 1, 2, none⟩ = some (.slice (some ⟨g, 0, none⟩) 1 c) := cell_blk G3w2.out rfl
  have e3 : w2.cell? ⟨w.heap.size + 1, 3, none⟩ = some (.int .i64 0) := cell_blk G3w2.out rfl
  have e4 : w2.cell? ⟨w.heap.size + 1, 4, none⟩ = some (.int .i64 0) := cell_blk G3w2.out rfl
  have e5 : w2.cell? ⟨w.heap.size + 1, 5, none⟩ = some (.int .i64 1) := cell_blk G3w2.out rfl
  have e6 : w2.cell? ⟨w.heap.size + 1, 6, none⟩ = some (.int .i64 1) := cell_blk G3w2.out rfl
  have e7 : w2.cell? ⟨w.heap.size + 1, 7, none⟩ = some (.int .i64 1) := cell_blk G3w2.out rfl
  have HOD := Lib.hid (outdated_no (HH.out.kept HB2.out))
  clear hb2
  go_wp2_with fail
  refine HOD.out.mono ?_
  rintro e w3 ⟨rfl, hb3⟩
  have HB3 := Lib.hid (HB2.out.trans (hb3.mono HB2.out.size))
  have G2w3 := Lib.hid ((hb3.block (w.heap.size) (Array.getElem?_eq_some_iff.1 G2w2.out).1).trans G2w2.out)
  have G3w3 := Lib.hid ((hb3.block (w.heap.size + 1) (Array.getElem?_eq_some_iff.1 G3w2.out).1).trans G3w2.out)
  have G4w3 := Lib.hid ((hb3.block (w.heap.size + 1 + 1) (Array.getElem?_eq_some_iff.1 G4w2.out).1).trans G4w2.out)
  clear a0 a1 a2 a3 a4 a5 e0 e1 e2 e3 e4 e5 e6 e7
  have a0 : w3.cell? ⟨w.heap.size, 0, none⟩ = some (.int .i64 0) := cell_blk G2w3.out rfl
  have a1 : w3.cell? ⟨w.heap.size, 1, none⟩ = some (.int .i64 0) := cell_blk G2w3.out rfl
  have a2 : w3.cell? ⟨w.heap.size, 2, none⟩ = some (.int .i64 0) := cell_blk G2w3.out rfl
  have a3 : w3.cell? ⟨w.heap.size, 3, none⟩ = some (.slice none 0 0) := cell_blk G2w3.out rfl
  have a4 : w3.cell? ⟨w.heap.size, 4, none⟩ = some (.slice none 0 0) := cell_blk G2w3.out rfl
  have a5 : w3.cell? ⟨w.heap.size, 5, none⟩ = some (.slice none 0 0) := cell_blk G2w3.out rfl
  have e0 : w3.cell? ⟨w.heap.size + 1, 0, none⟩ = some (.slice none 0 0) := cell_blk G3w3.out rfl
  have e1 : w3.cell? ⟨w.heap.size + 1, 1, none⟩ = some (.slice none 0 0) := cell_blk G3w3.out rfl
  have e2 : w3.cell? ⟨w.heap.size + 1, 2, none⟩ = some (.slice (some ⟨g, 0, none⟩) 1 c) := cell_blk G3w3.out rfl
  have e3 : w3.cell? ⟨w.heap.size + 1, 3, none⟩ = some (.int .i64 0) := cell_blk G3w3.out rfl
  have e4 : w3.cell? ⟨w.heap.size + 1, 4, none⟩ = some (.int .i64 0) := cell_blk G3w3.out rfl
  have e5 : w3.cell? ⟨w.heap.size + 1, 5, none⟩ = some (.int .i64 1) := cell_blk G3w3.out rfl
  have e6 : w3.cell? ⟨w.heap.size + 1, 6, none⟩ = some (.int .i64 1) := cell_blk G3w3.out rfl
  have e7 : w3.cell? ⟨w.heap.size + 1, 7, none⟩ = some (.int .i64 1) := cell_blk G3w3.out rfl
  clear hb3
  go_wp2_with fail
  refine (remaining_nil g c w3).mono ?_
  rintro e w4 ⟨b, rfl, hnm, hbl, hb4⟩
  have HB4 := Lib.hid (HB3.out.trans (hb4.mono HB3.out.size))
  have HNM := Lib.hid hnm
  have HBL := Lib.hid (Nat.le_trans HB3.out.size hbl)
  have HBT := Lib.hid hnm.lt
  have G2w4 := Lib.hid ((hb4.block (w.heap.size) (Array.getElem?_eq_some_iff.1 G2w3.out).1).trans G2w3.out)
  have G3w4 := Lib.hid ((hb4.block (w.heap.size + 1) (Array.getElem?_eq_some_iff.1 G3w3.out).1).trans G3w3.out)
  have G4w4 := Lib.hid ((hb4.block (w.heap.size + 1 + 1) (Array.getElem?_eq_some_iff.1 G4w3.out).1).trans G4w3.out)
  clear a0 a1 a2 a3 a4 a5 e0 e1 e2 e3 e4 e5 e6 e7
  have a0 : w4.cell? ⟨w.heap.size, 0, none⟩ = some (.int .i64 0) := cell_blk G2w4.out rfl
  have a1 : w4.cell? ⟨w.heap.size, 1, none⟩ = some (.int .i64 0) := cell_blk G2w4.out rfl
  have a2 : w4.cell? ⟨w.heap.size, 2, none⟩ = some (.int .i64 0) := cell_blk G2w4.out rfl
  have a3 : w4.cell? ⟨w.heap.size, 3, none⟩ = some (.slice none 0 0) := cell_blk G2w4.out rfl
  have a4 : w4.cell? ⟨w.heap.size, 4, none⟩ = some (.slice none 0 0) := cell_blk G2w4.out rfl
  have a5 : w4.cell? ⟨w.heap.size, 5, none⟩ = some (.slice none 0 0) := cell_blk G2w4.out rfl
  have e0 : w4.cell? ⟨w.heap.size + 1, 0, none⟩ = some (.slice none 0 0) := cell_blk G3w4.out rfl
  have e1 : w4.cell? ⟨w.heap.size + 1, 1, none⟩ = some (.slice none 0 0) := cell_blk G3w4.out rfl
  have e2 : w4.cell? ⟨w.heap.size + 1, 2, none⟩ = some (.slice (some ⟨g, 0, none⟩) 1 c) := cell_blk G3w4.out rfl
  have e3 : w4.cell? ⟨w.heap.size + 1, 3, none⟩ = some (.int .i64 0) := cell_blk G3w4.out rfl
  have e4 : w4.cell? ⟨w.heap.size + 1, 4, none⟩ = some (.int .i64 0) := cell_blk G3w4.out rfl
  have e5 : w4.cell? ⟨w.heap.size + 1, 5, none⟩ = some (.int .i64 1) := cell_blk G3w4.out rfl
  have e6 : w4.cell? ⟨w.heap.size + 1, 6, none⟩ = some (.int .i64 1) := cell_blk G3w4.out rfl
  have e7 : w4.cell? ⟨w.heap.size + 1, 7, none⟩ = some (.int .i64 1) := cell_blk G3w4.out rfl
  have HL4 := Lib.hid (show w.heap.size + 1 + 1 < w4.heap.size from (Array.getElem?_eq_some_iff.1 G4w4.out).1)
  have hl4 := HL4.out
  have hl3 : w.heap.size + 1 < w4.heap.size := by omega
  have hl2 : w.heap.size < w4.heap.size := by omega
  clear hb4 hnm hbl
  go_wp2_with fail
  refine wp_loop_rounds 1 ?_
  rw [rounds_succ]
  go_wp2_with fail
  clear a0 a1 a2 a3 a4 a5 e0 e1 e2 e3 e4 e5 e6 e7 hl2 hl3 hl4

  obtain ⟨w5, hw5⟩ : ∃ w5, w5 = w4.alloc (.cells #[.int .i64 1, .int .i64 0, .int .i64 0, .slice none 0 0, .slice none 0 0, .slice none 0 0] 26) := ⟨_, rfl⟩
  have hb5 : Below w4.heap.size w4 w5 := by rw [hw5]; exact (Below.refl _ _).alloc (Nat.le_refl _) _
  have hg5 : w5.heap[w4.heap.size]? = some (.cells #[.int .i64 1, .int .i64 0, .int .i64 0, .slice none 0 0, .slice none 0 0, .slice none 0 0] 26 (0, 0)) := by rw [hw5]; exact heap_alloc_new _ _
  have HB5 := Lib.hid (HB4.out.trans (hb5.mono HB4.out.size))
  have G2w5 := Lib.hid ((hb5.block (w.heap.size) (Array.getElem?_eq_some_iff.1 G2w4.out).1).trans G2w4.out)
  have G3w5 := Lib.hid ((hb5.block (w.heap.size + 1) (Array.getElem?_eq_some_iff.1 G3w4.out).1).trans G3w4.out)
  have G4w5 := Lib.hid ((hb5.block (w.heap.size + 1 + 1) (Array.getElem?_eq_some_iff.1 G4w4.out).1).trans G4w4.out)
  have HG5 := Lib.hid hg5
  have HNM5 := Lib.hid (HNM.out.kept hb5)
  have HW5 := Lib.hid hw5
  have HDF := Lib.hid (fun fv => deletefunc_nil HNM5.out fv)
  clear hb5 hg5 hw5
  rw [← HW5.out]
  refine (HDF.out _).mono ?_
  rintro e w6 ⟨rfl, hb6⟩
  have HB6 := Lib.hid (HB5.out.trans (hb6.mono HB5.out.size))
  have G2w6 := Lib.hid ((hb6.block (w.heap.size) (Array.getElem?_eq_some_iff.1 G2w5.out).1).trans G2w5.out)
  have G3w6 := Lib.hid ((hb6.block (w.heap.size + 1) (Array.getElem?_eq_some_iff.1 G3w5.out).1).trans G3w5.out)
  have G4w6 := Lib.hid ((hb6.block (w.heap.size + 1 + 1) (Array.getElem?_eq_some_iff.1 G4w5.out).1).trans G4w5.out)
  have HG6 := Lib.hid ((hb6.block w4.heap.size (Array.getElem?_eq_some_iff.1 HG5.out).1).trans HG5.out)
  have HNM6 := Lib.hid (HNM5.out.kept hb6)
  have hlen := fun ty => World.ownsMap.len (t := 92) HNM6.out rfl ty
  simp only [show Maps.size (DataW.map ([] : List (Lit × DataW Unit))) = 0 from rfl] at hlen
  clear hb6
  go_wp2_with fail
  clear hlen
  refine (mvalues_any b).mono ?_
  rintro e w7 ⟨rfl, hw7⟩
  have hb7 : Below w6.heap.size w6 w7 := by rw [hw7]; exact (Below.refl _ _).alloc (Nat.le_refl _) _
  have hc7 : w7.cell? ⟨w6.heap.size, 0, none⟩ = some (.map (some b)) := by rw [hw7]; exact cell_blk (heap_alloc_new _ _) rfl
  have hs7 : w7.heap.size = w6.heap.size + 1 := by rw [hw7]; exact Array.size_push _
  have hn7 := HNM6.out.kept hb7
  have HSO := Lib.hid (sorted0E (w := w7) (gf := 103) (lb := #[.pointer (some ⟨w6.heap.size, 0, none⟩)]) (fun _ _ => rfl) (fun m _ => mseq_stops m w6.heap.size b w7 (by omega) hc7 hn7 w7.heap.size (Nat.le_refl _)) (.func (.func 38) #[] #[]))
  have HB7 := Lib.hid (HB6.out.trans (hb7.mono HB6.out.size))
  have G2w7 := Lib.hid ((hb7.block (w.heap.size) (Array.getElem?_eq_some_iff.1 G2w6.out).1).trans G2w6.out)
  have G3w7 := Lib.hid ((hb7.block (w.heap.size + 1) (Array.getElem?_eq_some_iff.1 G3w6.out).1).trans G3w6.out)
  have G4w7 := Lib.hid ((hb7.block (w.heap.size + 1 + 1) (Array.getElem?_eq_some_iff.1 G4w6.out).1).trans G4w6.out)
  have HG7 := Lib.hid ((hb7.block w4.heap.size (Array.getElem?_eq_some_iff.1 HG6.out).1).trans HG6.out)
  clear hb7 hc7 hs7 hn7 hw7
  go_wp2_with fail
  refine HSO.out.mono ?_
  rintro e w8 ⟨⟨qa, qc, rfl⟩, hb8⟩
  have HB8 := Lib.hid (HB7.out.trans (hb8.mono HB7.out.size))
  have G2w8 := Lib.hid ((hb8.block (w.heap.size) (Array.getElem?_eq_some_iff.1 G2w7.out).1).trans G2w7.out)
  have G3w8 := Lib.hid ((hb8.block (w.heap.size + 1) (Array.getElem?_eq_some_iff.1 G3w7.out).1).trans G3w7.out)
  have G4w8 := Lib.hid ((hb8.block (w.heap.size + 1 + 1) (Array.getElem?_eq_some_iff.1 G4w7.out).1).trans G4w7.out)
  have HG8 := Lib.hid ((hb8.block w4.heap.size (Array.getElem?_eq_some_iff.1 HG7.out).1).trans HG7.out)
  clear hb8
  have n3 : w8.cell? ⟨w4.heap.size, 3, none⟩ = some (.slice none 0 0) := cell_blk HG8.out rfl
  have f3 : w8.frozen? ⟨w4.heap.size, 3, none⟩ = false := fro_blk HG8.out 3
  have HX9 := Lib.hid (cells_set HG8.out 3 (.slice qa 0 qc))
  have HB9 := Lib.hid (show Below w.heap.size w (w8.setCell ⟨w4.heap.size, 3, none⟩ (.slice qa 0 qc)) from HB8.out.setCell (by have := HL4.out; show w.heap.size ≤ w4.heap.size; omega) _)
  have hx2 := HX9.out.other (w.heap.size) (by have := HL4.out; omega)
  have hx3 := HX9.out.other (w.heap.size + 1) (by have := HL4.out; omega)
  have hx4 := HX9.out.other (w.heap.size + 1 + 1) (by have := HL4.out; omega)
  have u4 : (w8.setCell ⟨w4.heap.size, 3, none⟩ (.slice qa 0 qc)).cell? ⟨w.heap.size, 4, none⟩ = some (.slice none 0 0) := cell_blk (hx2.trans G2w8.out) rfl
  go_wp2_with fail
  obtain ⟨w9, hw9⟩ : ∃ w9, w9 = w8.setCell ⟨w4.heap.size, 3, none⟩ (.slice qa 0 qc) := ⟨_, rfl⟩
  have HW9 := Lib.hid hw9
  have HBN := Lib.hid (show Below w.heap.size w w9 from by rw [hw9]; exact HB9.out)
  have G2w9 := Lib.hid (show w9.heap[w.heap.size]? = some (.cells #[.int .i64 0, .int .i64 0, .int .i64 0, .slice none 0 0, .slice none 0 0, .slice none 0 0] 26 (0, 0)) from by rw [hw9]; exact hx2.trans G2w8.out)
  have G3w9 := Lib.hid (show w9.heap[w.heap.size + 1]? = some (.cells #[.slice none 0 0, .slice none 0 0, .slice (some ⟨g, 0, none⟩) 1 c, .int .i64 0, .int .i64 0, .int .i64 1, .int .i64 1, .int .i64 1] 48 (0, 0)) from by rw [hw9]; exact hx3.trans G3w8.out)
  have G4w9 := Lib.hid (show w9.heap[w.heap.size + 1 + 1]? = some (.cells #[.int .i64 0, .int .i64 0, .int .i64 0, .slice none 0 0, .slice none 0 0, .slice none 0 0] 26 (0, 0)) from by rw [hw9]; exact hx4.trans G4w8.out)
  have HG9 := Lib.hid (show w9.heap[w4.heap.size]? = some (.cells #[.int .i64 1, .int .i64 0, .int .i64 0, .slice qa 0 qc, .slice none 0 0, .slice none 0 0] 26 (0, 0)) from by rw [hw9]; exact HX9.out.row)
  clear hw9 hx2 hx3 hx4 u4 n3 f3
  rw [← HW9.out]
  refine (clone_nilM w9).mono ?_
  rintro e w9' ⟨rfl, h99⟩
  obtain rfl : w9' = w9 := h99
  have n4 : w9'.cell? ⟨w4.heap.size, 4, none⟩ = some (.slice none 0 0) := cell_blk HG9.out rfl
  have f4 : w9'.frozen? ⟨w4.heap.size, 4, none⟩ = false := fro_blk HG9.out 4
  have HX10 := Lib.hid (cells_set HG9.out 4 (.slice none 0 0))
  have hx3 := HX10.out.other (w.heap.size + 1) (by have := HL4.out; omega)
  have v2 : (w9'.setCell ⟨w4.heap.size, 4, none⟩ (.slice none 0 0)).cell? ⟨w.heap.size + 1, 2, none⟩ = some (.slice (some ⟨g, 0, none⟩) 1 c) := cell_blk (hx3.trans G3w9.out) rfl
  have HC10 := Lib.hid (HBN.out.setCell (p := ⟨w4.heap.size, 4, none⟩) (by have := HL4.out; show w.heap.size ≤ w4.heap.size; omega) (.slice none 0 0))
  clear hx3
  go_wp2_with fail
  obtain ⟨w10, hw10⟩ : ∃ w10, w10 = w9'.setCell ⟨w4.heap.size, 4, none⟩ (.slice none 0 0) := ⟨_, rfl⟩
  have HW10 := Lib.hid hw10
  have HBT0 := Lib.hid (show Below w.heap.size w w10 from by rw [hw10]; exact HC10.out)
  have G2w10 := Lib.hid (show w10.heap[w.heap.size]? = some (.cells #[.int .i64 0, .int .i64 0, .int .i64 0, .slice none 0 0, .slice none 0 0, .slice none 0 0] 26 (0, 0)) from by rw [hw10]; exact (HX10.out.other _ (by have := HL4.out; omega)).trans G2w9.out)
  have G3w10 := Lib.hid (show w10.heap[w.heap.size + 1]? = some (.cells #[.slice none 0 0, .slice none 0 0, .slice (some ⟨g, 0, none⟩) 1 c, .int .i64 0, .int .i64 0, .int .i64 1, .int .i64 1, .int .i64 1] 48 (0, 0)) from by rw [hw10]; exact (HX10.out.other _ (by have := HL4.out; omega)).trans G3w9.out)
  have G4w10 := Lib.hid (show w10.heap[w.heap.size + 1 + 1]? = some (.cells #[.int .i64 0, .int .i64 0, .int .i64 0, .slice none 0 0, .slice none 0 0, .slice none 0 0] 26 (0, 0)) from by rw [hw10]; exact (HX10.out.other _ (by have := HL4.out; omega)).trans G4w9.out)
  have hg10 : w10.heap[w4.heap.size]? = some (.cells #[.int .i64 1, .int .i64 0, .int .i64 0, .slice qa 0 qc, .slice none 0 0, .slice none 0 0] 26 (0, 0)) := by rw [hw10]; exact HX10.out.row
  have HG10 := Lib.hid hg10
  obtain ⟨sb, so, hsb, hsl, _, hsc9⟩ := (HH.out.kept HBT0.out).get (show 0 < 1 by omega)
  obtain ⟨rfl, rfl, _⟩ := hsb
  have d0 : w10.cell? ⟨g, 0, none⟩ = some (.int .i64 1) := by simpa using hsc9 0 _ rfl
  have d1 : w10.cell? ⟨g, 0 + 1, none⟩ = some (.int .i64 5) := by simpa using hsc9 1 _ rfl
  have n5 : w10.cell? ⟨w4.heap.size, 4, none⟩ = some (.slice none 0 0) := cell_blk hg10 rfl
  have hl10 : w4.heap.size < w10.heap.size := (Array.getElem?_eq_some_iff.1 hg10).1
  have HL10 := Lib.hid hl10
  clear hw10 hg10 hsc9 hsl v2 n4 f4
  rw [← HW10.out]
  refine wp_loop_rounds 2 ?_
  rw [rounds_succ]
  go_wp2_with fail
  refine (put_nilM 1 5 _ _).mono ?_
  rintro e w11 ⟨g1, c1, rfl, hge, hv, hb11⟩
  have hb11' : Below w10.heap.size w10 w11 := ((Below.refl _ _).alloc (Nat.le_refl _) _).trans (hb11.mono (by simp))
  have HB11 := Lib.hid (HBT0.out.trans (hb11'.mono HBT0.out.size))
  have G2w11 := Lib.hid ((hb11'.block (w.heap.size) (Array.getElem?_eq_some_iff.1 G2w10.out).1).trans G2w10.out)
  have G3w11 := Lib.hid ((hb11'.block (w.heap.size + 1) (Array.getElem?_eq_some_iff.1 G3w10.out).1).trans G3w10.out)
  have G4w11 := Lib.hid ((hb11'.block (w.heap.size + 1 + 1) (Array.getElem?_eq_some_iff.1 G4w10.out).1).trans G4w10.out)
  have HG11 := Lib.hid ((hb11'.block w4.heap.size (Array.getElem?_eq_some_iff.1 HG10.out).1).trans HG10.out)
  have HGE := Lib.hid (show w4.heap.size < g1 from by have := HL10.out; simp at hge; omega)
  have HV11 := Lib.hid hv
  have n6 : w11.cell? ⟨w4.heap.size, 4, none⟩ = some (.slice none 0 0) := cell_blk HG11.out rfl
  have f6 : w11.frozen? ⟨w4.heap.size, 4, none⟩ = false := fro_blk HG11.out 4
  clear hge hv hb11 hb11' d0 d1 n5 hl10
  go_wp2_with fail
  rw [rounds_succ]
  go_wp2_with fail
  obtain ⟨w12, hw12⟩ : ∃ w12, w12 = w11.setCell ⟨w4.heap.size, 4, none⟩ (.slice (some ⟨g1, 0, none⟩) 1 c1) := ⟨_, rfl⟩
  have HX12 := Lib.hid (cells_set HG11.out 4 (.slice (some ⟨g1, 0, none⟩) 1 c1))
  have HW12 := Lib.hid hw12
  have HB12 := Lib.hid (show Below w.heap.size w w12 from by rw [hw12]; exact HB11.out.setCell (p := ⟨w4.heap.size, 4, none⟩) (by have := HL4.out; show w.heap.size ≤ w4.heap.size; omega) _)
  have G2w12 := Lib.hid (show w12.heap[w.heap.size]? = some (.cells #[.int .i64 0, .int .i64 0, .int .i64 0, .slice none 0 0, .slice none 0 0, .slice none 0 0] 26 (0, 0)) from by rw [hw12]; exact (HX12.out.other _ (by have := HL4.out; omega)).trans G2w11.out)
  have G3w12 := Lib.hid (show w12.heap[w.heap.size + 1]? = some (.cells #[.slice none 0 0, .slice none 0 0, .slice (some ⟨g, 0, none⟩) 1 c, .int .i64 0, .int .i64 0, .int .i64 1, .int .i64 1, .int .i64 1] 48 (0, 0)) from by rw [hw12]; exact (HX12.out.other _ (by have := HL4.out; omega)).trans G3w11.out)
  have G4w12 := Lib.hid (show w12.heap[w.heap.size + 1 + 1]? = some (.cells #[.int .i64 0, .int .i64 0, .int .i64 0, .slice none 0 0, .slice none 0 0, .slice none 0 0] 26 (0, 0)) from by rw [hw12]; exact (HX12.out.other _ (by have := HL4.out; omega)).trans G4w11.out)
  have HG12 := Lib.hid (show w12.heap[w4.heap.size]? = some (.cells #[.int .i64 1, .int .i64 0, .int .i64 0, .slice qa 0 qc, .slice (some ⟨g1, 0, none⟩) 1 c1, .slice none 0 0] 26 (0, 0)) from by rw [hw12]; exact HX12.out.row)
  have HV12 := Lib.hid (show VecAt MarkS w12 (some ⟨g1, 0, none⟩) 1 c1 [(1, 5)] from by rw [hw12]; exact vec_set HV11.out (fun _ h => h) (fun b off s e => by cases e; have := HGE.out; omega))
  have HJ0 := Lib.hid (show JpA w w12 w4.heap.size (.slice qa 0 qc) (.slice (some ⟨g1, 0, none⟩) 1 c1) w12 from ⟨HB12.out, Nat.le_refl _, fun _ _ _ => rfl, _, HG12.out⟩)
  clear hw12 n6 f6
  rw [← HW12.out]
  refine wp_region_fill (by kernel_rfl) (by kernel_rfl) (by kernel_rfl) (JpA w w12 w4.heap.size (.slice qa 0 qc) (.slice (some ⟨g1, 0, none⟩) 1 c1)) (FV2 (fun j_9 => match j_9 with | 0 => some (.pointer (some ⟨w.heap.size, 5, none⟩)) | 1 => some (.slice none 0 0) | 2 => some (.slice none 0 0) | 3 => some (.pointer (some ⟨w.heap.size + 1, 5, none⟩)) | 4 => some (.agg #[.int .i64 1, .int .i64 1, .int .i64 1]) | 5 => none | 6 => some (.pointer (some ⟨w4.heap.size, 5, none⟩)) | 7 => none | _ => none) (SpA w4.heap.size (.slice qa 0 qc) (.slice (some ⟨g1, 0, none⟩) 1 c1))) HJ0.out.drew ?_ ?_
  · intro i9 o ho V w9 K hJ hdep hK
    have HJ := Lib.hid hJ
    simp only [fill, slotOf, List.size_toArray, List.length_cons, List.length_nil, Nat.reduceAdd, List.getElem?_toArray, List.getElem?_cons_zero, List.getElem?_cons_succ, Option.bind_some, Act.put, List.setIfInBounds_toArray, List.set_cons_zero, List.set_cons_succ] at hK ⊢
    have hin : i9 < 8 := (Array.getElem?_eq_some_iff.1 ho).1
    have hcs : i9 = 0 ∨ i9 = 1 ∨ i9 = 2 ∨ i9 = 3 ∨ i9 = 4 ∨ i9 = 5 ∨ i9 = 6 ∨ i9 = 7 := by omega
    clear hin
    rcases hcs with rfl | rfl | rfl | rfl | rfl | rfl | rfl | rfl
    · obtain rfl := Option.some.inj ho.symm
      clear hdep ho hJ
      try simp only [fill, slotOf, List.size_toArray, List.length_cons, List.length_nil, Nat.reduceAdd, List.getElem?_toArray, List.getElem?_cons_zero, List.getElem?_cons_succ, Option.bind_some, Act.put, List.setIfInBounds_toArray, List.set_cons_zero, List.set_cons_succ] at hK ⊢
      go_simp
      exact hK (.pointer (some ⟨w.heap.size, 5, none⟩)) _ HJ.out rfl (fun j y h => h) _ rfl
    · obtain rfl := Option.some.inj ho.symm
      have d0 : V 0 = .pointer (some ⟨w.heap.size, 5, none⟩) := hdep ⟨0, .data⟩ (by simp) rfl
      have a5 : w9.cell? ⟨w.heap.size, 5, none⟩ = some (.slice none 0 0) := cell_blk ((hJ.old (w.heap.size) (Array.getElem?_eq_some_iff.1 G2w12.out).1 (by have := HL4.out; omega)).trans G2w12.out) rfl
      clear hdep ho hJ
      try simp only [fill, slotOf, List.size_toArray, List.length_cons, List.length_nil, Nat.reduceAdd, List.getElem?_toArray, List.getElem?_cons_zero, List.getElem?_cons_succ, Option.bind_some, Act.put, List.setIfInBounds_toArray, List.set_cons_zero, List.set_cons_succ] at hK ⊢
      rw [d0] at hK ⊢
      go_simp
      exact hK (.slice none 0 0) _ HJ.out rfl (fun j y h => h) _ rfl
    · obtain rfl := Option.some.inj ho.symm
      have d1 : V 1 = .slice none 0 0 := hdep ⟨1, .data⟩ (by simp) rfl
      clear hdep ho hJ
      try simp only [fill, slotOf, List.size_toArray, List.length_cons, List.length_nil, Nat.reduceAdd, List.getElem?_toArray, List.getElem?_cons_zero, List.getElem?_cons_succ, Option.bind_some, Act.put, List.setIfInBounds_toArray, List.set_cons_zero, List.set_cons_succ] at hK ⊢
      rw [d1] at hK ⊢
      go_simp
      refine (clone_nilO' w9).mono ?_
      rintro e w8 ⟨rfl, hb8⟩
      exact hK (.slice none 0 0) _ (HJ.out.trans hb8) rfl (FV2.mono (SpA.mono HJ.out.lt hb8)) _ rfl
    · obtain rfl := Option.some.inj ho.symm
      clear hdep ho hJ
      try simp only [fill, slotOf, List.size_toArray, List.length_cons, List.length_nil, Nat.reduceAdd, List.getElem?_toArray, List.getElem?_cons_zero, List.getElem?_cons_succ, Option.bind_some, Act.put, List.setIfInBounds_toArray, List.set_cons_zero, List.set_cons_succ] at hK ⊢
      go_simp
      exact hK (.pointer (some ⟨w.heap.size + 1, 5, none⟩)) _ HJ.out rfl (fun j y h => h) _ rfl
    · obtain rfl := Option.some.inj ho.symm
      have d3 : V 3 = .pointer (some ⟨w.heap.size + 1, 5, none⟩) := hdep ⟨3, .data⟩ (by simp) rfl
      have e5 : w9.cell? ⟨w.heap.size + 1, 5, none⟩ = some (.int .i64 1) := cell_blk ((hJ.old (w.heap.size + 1) (Array.getElem?_eq_some_iff.1 G3w12.out).1 (by have := HL4.out; omega)).trans G3w12.out) rfl
      have e6 : w9.cell? ⟨w.heap.size + 1, 6, none⟩ = some (.int .i64 1) := cell_blk ((hJ.old (w.heap.size + 1) (Array.getElem?_eq_some_iff.1 G3w12.out).1 (by have := HL4.out; omega)).trans G3w12.out) rfl
      have e7 : w9.cell? ⟨w.heap.size + 1, 7, none⟩ = some (.int .i64 1) := cell_blk ((hJ.old (w.heap.size + 1) (Array.getElem?_eq_some_iff.1 G3w12.out).1 (by have := HL4.out; omega)).trans G3w12.out) rfl
      clear hdep ho hJ
      try simp only [fill, slotOf, List.size_toArray, List.length_cons, List.length_nil, Nat.reduceAdd, List.getElem?_toArray, List.getElem?_cons_zero, List.getElem?_cons_succ, Option.bind_some, Act.put, List.setIfInBounds_toArray, List.set_cons_zero, List.set_cons_succ] at hK ⊢
      rw [d3] at hK ⊢
      go_simp
      exact hK (.agg #[.int .i64 1, .int .i64 1, .int .i64 1]) _ HJ.out rfl (fun j y h => h) _ rfl
    · obtain rfl := Option.some.inj ho.symm
      have d2 : V 2 = .slice none 0 0 := hdep ⟨2, .data⟩ (by simp) rfl
      have d4 : V 4 = .agg #[.int .i64 1, .int .i64 1, .int .i64 1] := hdep ⟨4, .data⟩ (by simp) rfl
      clear hdep ho hJ
      try simp only [fill, slotOf, List.size_toArray, List.length_cons, List.length_nil, Nat.reduceAdd, List.getElem?_toArray, List.getElem?_cons_zero, List.getElem?_cons_succ, Option.bind_some, Act.put, List.setIfInBounds_toArray, List.set_cons_zero, List.set_cons_succ] at hK ⊢
      rw [d2, d4] at hK ⊢
      go_simp
      refine (put_nilO 1 1 1 _ w9).mono ?_
      rintro e w8 ⟨g2, c2, rfl, hge8, hv8, hb8⟩
      exact hK (.slice (some ⟨g2, 0, none⟩) 1 c2) _ (HJ.out.trans hb8) (SpA.at5 (E := .slice qa 0 qc) (M := .slice (some ⟨g1, 0, none⟩) 1 c1) (Nat.lt_of_lt_of_le HJ.out.lt hge8) hv8) (FV2.mono (SpA.mono HJ.out.lt hb8)) _ rfl
    · obtain rfl := Option.some.inj ho.symm
      clear hdep ho hJ
      try simp only [fill, slotOf, List.size_toArray, List.length_cons, List.length_nil, Nat.reduceAdd, List.getElem?_toArray, List.getElem?_cons_zero, List.getElem?_cons_succ, Option.bind_some, Act.put, List.setIfInBounds_toArray, List.set_cons_zero, List.set_cons_succ] at hK ⊢
      go_simp
      exact hK (.pointer (some ⟨w4.heap.size, 5, none⟩)) _ HJ.out rfl (fun j y h => h) _ rfl
    · have hoo := Option.some.inj ho.symm
      obtain ⟨g2, c2, eV5, hg2, hv2⟩ : ∃ g2 c2, V 5 = .slice (some ⟨g2, 0, none⟩) 1 c2 ∧ w4.heap.size < g2 ∧ VecAt OwnS w9 (some ⟨g2, 0, none⟩) 1 c2 [(1, 1, 1)] := hdep ⟨5, .data⟩ (by rw [hoo]; simp) rfl
      subst hoo
      have d6 : V 6 = .pointer (some ⟨w4.heap.size, 5, none⟩) := hdep ⟨6, .data⟩ (by simp) rfl
      have HV5 := Lib.hid hv2
      obtain ⟨x9, hx9⟩ := hJ.row
      have HX5 := Lib.hid hx9
      have c5 : w9.cell? ⟨w4.heap.size, 5, none⟩ = some x9 := cell_blk hx9 rfl
      have fz5 : w9.frozen? ⟨w4.heap.size, 5, none⟩ = false := fro_blk hx9 5
      clear hdep ho hJ hv2 hx9
      try simp only [fill, slotOf, List.size_toArray, List.length_cons, List.length_nil, Nat.reduceAdd, List.getElem?_toArray, List.getElem?_cons_zero, List.getElem?_cons_succ, Option.bind_some, Act.put, List.setIfInBounds_toArray, List.set_cons_zero, List.set_cons_succ] at hK ⊢
      rw [d6, eV5] at hK ⊢
      go_simp
      exact hK undef _ (HJ.out.set (by have := HL4.out; omega) _) (SpA.at7 (u := undef) hg2 HX5.out HV5.out) (FV2.mono (SpA.set hg2 HX5.out HV5.out)) _ rfl
  · intro V w9 hJ hall
    have h7 : ∃ g2 c2, w9.heap[w4.heap.size]? = some (.cells #[.int .i64 1, .int .i64 0, .int .i64 0, .slice qa 0 qc, .slice (some ⟨g1, 0, none⟩) 1 c1, .slice (some ⟨g2, 0, none⟩) 1 c2] 26 (0, 0)) ∧ VecAt OwnS w9 (some ⟨g2, 0, none⟩) 1 c2 [(1, 1, 1)] ∧ w4.heap.size < g2 := hall 7 (by decide)
    have HJ9 := Lib.hid hJ
    clear hall hJ
    simp only [fill, slotOf, List.size_toArray, List.length_cons, List.length_nil, Nat.reduceAdd, List.getElem?_toArray, List.getElem?_cons_zero, List.getElem?_cons_succ, Option.bind_some, Act.put, List.setIfInBounds_toArray, List.set_cons_zero, List.set_cons_succ]
    obtain ⟨g2, c2, hrow, hv2, hg2⟩ := h7
    have HG2 := Lib.hid hg2
    have HRW := Lib.hid hrow
    have HV2 := Lib.hid hv2
    have HM9 := Lib.hid (HV12.out.kept2 HJ9.out HGE.out)
    have HG4 := Lib.hid (show w9.heap[w.heap.size + 1 + 1]? = some (.cells #[.int .i64 0, .int .i64 0, .int .i64 0, .slice none 0 0, .slice none 0 0, .slice none 0 0] 26 (0, 0)) from (HJ9.out.old (w.heap.size + 1 + 1) (Array.getElem?_eq_some_iff.1 G4w12.out).1 (by have := HL4.out; omega)).trans G4w12.out)
    have n0 : w9.cell? ⟨w4.heap.size, 0, none⟩ = some (.int .i64 1) := cell_blk hrow rfl
    have n1 : w9.cell? ⟨w4.heap.size, 1, none⟩ = some (.int .i64 0) := cell_blk hrow rfl
    have n2 : w9.cell? ⟨w4.heap.size, 2, none⟩ = some (.int .i64 0) := cell_blk hrow rfl
    have n3 : w9.cell? ⟨w4.heap.size, 3, none⟩ = some (.slice qa 0 qc) := cell_blk hrow rfl
    have n4 : w9.cell? ⟨w4.heap.size, 4, none⟩ = some (.slice (some ⟨g1, 0, none⟩) 1 c1) := cell_blk hrow rfl
    have n5 : w9.cell? ⟨w4.heap.size, 5, none⟩ = some (.slice (some ⟨g2, 0, none⟩) 1 c2) := cell_blk hrow rfl
    have m0 : w9.cell? ⟨w.heap.size + 1 + 1, 0, none⟩ = some (.int .i64 0) := cell_blk HG4.out rfl
    have m1 : w9.cell? ⟨w.heap.size + 1 + 1, 1, none⟩ = some (.int .i64 0) := cell_blk HG4.out rfl
    have m2 : w9.cell? ⟨w.heap.size + 1 + 1, 2, none⟩ = some (.int .i64 0) := cell_blk HG4.out rfl
    have m3 : w9.cell? ⟨w.heap.size + 1 + 1, 3, none⟩ = some (.slice none 0 0) := cell_blk HG4.out rfl
    have m4 : w9.cell? ⟨w.heap.size + 1 + 1, 4, none⟩ = some (.slice none 0 0) := cell_blk HG4.out rfl
    have m5 : w9.cell? ⟨w.heap.size + 1 + 1, 5, none⟩ = some (.slice none 0 0) := cell_blk HG4.out rfl
    have z0 : w9.frozen? ⟨w.heap.size + 1 + 1, 0, none⟩ = false := fro_blk HG4.out 0
    have z1 : w9.frozen? ⟨w.heap.size + 1 + 1, 1, none⟩ = false := fro_blk HG4.out 1
    have z2 : w9.frozen? ⟨w.heap.size + 1 + 1, 2, none⟩ = false := fro_blk HG4.out 2
    have z3 : w9.frozen? ⟨w.heap.size + 1 + 1, 3, none⟩ = false := fro_blk HG4.out 3
    have z4 : w9.frozen? ⟨w.heap.size + 1 + 1, 4, none⟩ = false := fro_blk HG4.out 4
    have z5 : w9.frozen? ⟨w.heap.size + 1 + 1, 5, none⟩ = false := fro_blk HG4.out 5
    clear hrow hv2 hg2
    go_wp2_with fail
    refine bodyPost_ret (ret_cell_tmp rfl _ _ (w.heap.size + 1 + 1) 26 #[.int .i64 1, .int .i64 0, .int .i64 0, .slice qa 0 qc, .slice (some ⟨g1, 0, none⟩) 1 c1, .slice (some ⟨g2, 0, none⟩) 1 c2] _ _ rfl (set6 HG4.out _ _ _ _ _ _) Tryz.underlying26 rfl (by kernel_rfl)) rfl ?_
    exact ⟨qa, qc, g1, c1, g2, c2, rfl, vec6 HM9.out (fun _ _ _ h => h) (by have := HGE.out; have := HL4.out; omega) _ _ _ _ _ _, vec6 HV2.out (fun _ _ _ h => h) (by have := HG2.out; have := HL4.out; omega) _ _ _ _ _ _, below6 HJ9.out.below (by omega) _ _ _ _ _ _⟩


end Go.Proofs.YtbdgcfimbblncaaGreatDoor
end PkMC5_2
section PkMC5_3
/- Manifests: the document's Twin, walked. Written by genmftw.py. -/
namespace Go.Proofs.YtbdgcfimbblncaaGreatDoor
open Go.RowKit LabPlain
set_option linter.unusedVariables false

theorem info9E : (Tryz.prog.info? 53).map (fun i => (i.zero, i.size, i.bytes)) = some (some (.agg #[.string ByteArray.empty, .int .i64 0, .string ByteArray.empty, .int .i64 0, .int .i64 0, .int .i64 0, .int .i64 0, .int .u32 0, .int .i64 0]), 9, 88) := by kernel_rfl
theorem info9M : (Tryz.prog.info? 43).map (fun i => (i.zero, i.size, i.bytes)) = some (some (.agg #[.int .i64 0, .int .i64 0]), 2, 16) := by kernel_rfl
theorem info9O : (Tryz.prog.info? 45).map (fun i => (i.zero, i.size, i.bytes)) = some (some (.agg #[.int .i64 0, .int .i64 0, .int .i64 0]), 3, 24) := by kernel_rfl
theorem own_addr {base n k : Nat} {w : World} {e : TypeId} {xs : List Value} {a : Option Addr} {c : Nat} (h : w.ownsRow base e k (.slice a n c) n xs) : ∀ b off s, a = some ⟨b, off, s⟩ → base ≤ b := by
  intro b off s e2
  rcases h.2 with ⟨e1, _⟩ | ⟨g, cap, cu, e1, hg, _⟩
  · cases e1; cases e2
  · cases e1; cases e2; exact hg
theorem own_slice9 {base n : Nat} {w : World} {e : TypeId} {k : Nat} {v : Value} {xs : List Value} (ho : w.ownsRow base e k v n xs) : ∃ a c, v = .slice a n c := by
  rcases ho.2 with ⟨rfl, h0⟩ | ⟨g, cap, cu, rfl, _⟩
  · exact ⟨none, 0, by rw [h0]⟩
  · exact ⟨_, _, rfl⟩

theorem wpList_append9E {w : World} {ops : Array Oper} {rest : List Oper} {o : Oper} {a : Act} {Q : Exit → Act → World → Prop} (hgd : o.guard = none) (s x : Operand)
    (ho : o.op = .call { callee := .builtin .append, args := #[s, x], argTypes := #[22, 22] })
    (base : Nat) (v : Value) (n : Nat) (xs : List EntV) (hs : a.eval s = v) (hown : w.ownsRow base 53 9 v n (EntS.flat xs))
    (src : Option Addr) (m c : Nat) (ys : List EntV) (hx : a.eval x = .slice src m c) (hb : VecAt EntS w src m c ys)
    (h63 : (n + m) * 88 ≤ 140737488355328) (hbase : base ≤ w.heap.size)
    (h : ∀ v' w', w'.ownsRow base 53 9 v' (n + m) (EntS.flat (xs ++ ys)) → w.grownBy w' v.ownBlock → wpList Tryz.prog ops Q rest (a.put o.dst v') w') : wpList Tryz.prog ops Q (o :: rest) a w := by
  obtain ⟨i0, hi, hz0, hz1, hz2⟩ := info_parts info9E
  have happ : EntS.flat (xs ++ ys) = EntS.flat xs ++ EntS.flat ys := by unfold Sty.flat; rw [List.flatMap_append]
  rcases src with _ | ad
  · have hc := hb.nl rfl
    have hm : m = 0 := by have := hb.cap; omega
    subst hm
    subst hc
    have hy : ys = [] := List.eq_nil_of_length_eq_zero hb.len
    subst hy
    refine wpList_append_own_none hgd s x 22 ho base 53 i0 9 Tryz.underlying22 hi v n (EntS.flat xs) hs hown hx ?_
    exact h v w (by simpa using hown) (World.grownBy.refl _ _)
  · refine wpList_append_own_at w hgd s x 22 ho base 53 i0 _ 9 88 Tryz.underlying22 hi hz0 hz1 hz2 rfl (by decide) v n (EntS.flat xs) hs hown ad m c (EntS.flat ys) hx (by rw [Sty.flat_len, hb.len]; rfl) hb.src (Sty.flat_one _ _) (by unfold maxLen; omega) h63 hbase ?_
    intro v' w' h1 h2 _ _
    exact h v' w' (by rw [happ]; exact h1) h2

theorem wpList_append9M {w : World} {ops : Array Oper} {rest : List Oper} {o : Oper} {a : Act} {Q : Exit → Act → World → Prop} (hgd : o.guard = none) (s x : Operand)
    (ho : o.op = .call { callee := .builtin .append, args := #[s, x], argTypes := #[23, 23] })
    (base : Nat) (v : Value) (n : Nat) (xs : List (Int × Int)) (hs : a.eval s = v) (hown : w.ownsRow base 43 2 v n (MarkS.flat xs))
    (src : Option Addr) (m c : Nat) (ys : List (Int × Int)) (hx : a.eval x = .slice src m c) (hb : VecAt MarkS w src m c ys)
    (h63 : (n + m) * 16 ≤ 140737488355328) (hbase : base ≤ w.heap.size)
    (h : ∀ v' w', w'.ownsRow base 43 2 v' (n + m) (MarkS.flat (xs ++ ys)) → w.grownBy w' v.ownBlock → wpList Tryz.prog ops Q rest (a.put o.dst v') w') : wpList Tryz.prog ops Q (o :: rest) a w := by
  obtain ⟨i0, hi, hz0, hz1, hz2⟩ := info_parts info9M
  have happ : MarkS.flat (xs ++ ys) = MarkS.flat xs ++ MarkS.flat ys := by unfold Sty.flat; rw [List.flatMap_append]
  rcases src with _ | ad
  · have hc := hb.nl rfl
    have hm : m = 0 := by have := hb.cap; omega
    subst hm
    subst hc
    have hy : ys = [] := List.eq_nil_of_length_eq_zero hb.len
    subst hy
    refine wpList_append_own_none hgd s x 23 ho base 43 i0 2 Tryz.underlying23 hi v n (MarkS.flat xs) hs hown hx ?_
    exact h v w (by simpa using hown) (World.grownBy.refl _ _)
  · refine wpList_append_own_at w hgd s x 23 ho base 43 i0 _ 2 16 Tryz.underlying23 hi hz0 hz1 hz2 rfl (by decide) v n (MarkS.flat xs) hs hown ad m c (MarkS.flat ys) hx (by rw [Sty.flat_len, hb.len]; rfl) hb.src (Sty.flat_one _ _) (by unfold maxLen; omega) h63 hbase ?_
    intro v' w' h1 h2 _ _
    exact h v' w' (by rw [happ]; exact h1) h2

theorem wpList_append9O {w : World} {ops : Array Oper} {rest : List Oper} {o : Oper} {a : Act} {Q : Exit → Act → World → Prop} (hgd : o.guard = none) (s x : Operand)
    (ho : o.op = .call { callee := .builtin .append, args := #[s, x], argTypes := #[24, 24] })
    (base : Nat) (v : Value) (n : Nat) (xs : List (Int × Int × Int)) (hs : a.eval s = v) (hown : w.ownsRow base 45 3 v n (OwnS.flat xs))
    (src : Option Addr) (m c : Nat) (ys : List (Int × Int × Int)) (hx : a.eval x = .slice src m c) (hb : VecAt OwnS w src m c ys)
    (h63 : (n + m) * 24 ≤ 140737488355328) (hbase : base ≤ w.heap.size)
    (h : ∀ v' w', w'.ownsRow base 45 3 v' (n + m) (OwnS.flat (xs ++ ys)) → w.grownBy w' v.ownBlock → wpList Tryz.prog ops Q rest (a.put o.dst v') w') : wpList Tryz.prog ops Q (o :: rest) a w := by
  obtain ⟨i0, hi, hz0, hz1, hz2⟩ := info_parts info9O
  have happ : OwnS.flat (xs ++ ys) = OwnS.flat xs ++ OwnS.flat ys := by unfold Sty.flat; rw [List.flatMap_append]
  rcases src with _ | ad
  · have hc := hb.nl rfl
    have hm : m = 0 := by have := hb.cap; omega
    subst hm
    subst hc
    have hy : ys = [] := List.eq_nil_of_length_eq_zero hb.len
    subst hy
    refine wpList_append_own_none hgd s x 24 ho base 45 i0 3 Tryz.underlying24 hi v n (OwnS.flat xs) hs hown hx ?_
    exact h v w (by simpa using hown) (World.grownBy.refl _ _)
  · refine wpList_append_own_at w hgd s x 24 ho base 45 i0 _ 3 24 Tryz.underlying24 hi hz0 hz1 hz2 rfl (by decide) v n (OwnS.flat xs) hs hown ad m c (OwnS.flat ys) hx (by rw [Sty.flat_len, hb.len]; rfl) hb.src (Sty.flat_one _ _) (by unfold maxLen; omega) h63 hbase ?_
    intro v' w' h1 h2 _ _
    exact h v' w' (by rw [happ]; exact h1) h2

theorem vec6o {α : Type} {S : Sty α} {v : World} {R : Nat} {a : Option Addr} {n c : Nat} {l : List α} (h : VecAt S v a n c l) (hok : ∀ (w w' : World) x, S.ok w x → S.ok w' x) (hn : ∀ b off s, a = some ⟨b, off, s⟩ → b ≠ R) (x0 x1 x2 x3 x4 x5 : Value) : VecAt S ((((((v.setCell ⟨R, 0, none⟩ x0).setCell ⟨R, 1, none⟩ x1).setCell ⟨R, 2, none⟩ x2).setCell ⟨R, 3, none⟩ x3).setCell ⟨R, 4, none⟩ x4).setCell ⟨R, 5, none⟩ x5) a n c l :=
  vec_set (vec_set (vec_set (vec_set (vec_set (vec_set h (hok _ _) hn) (hok _ _) hn) (hok _ _) hn) (hok _ _) hn) (hok _ _) hn) (hok _ _) hn
/-- but for one block, what was there is as it was -/
structure Ob (B : Nat) (w w' : World) : Prop where
  size : w.heap.size ≤ w'.heap.size
  old : ∀ k, k < w.heap.size → k ≠ B → w'.heap[k]? = w.heap[k]?
theorem Ob.trans {B : Nat} {w w1 w2 : World} (h : Ob B w w1) (k : Ob B w1 w2) : Ob B w w2 := ⟨Nat.le_trans h.size k.size, fun i hi hn => (k.old i (Nat.lt_of_lt_of_le hi h.size) hn).trans (h.old i hi hn)⟩
theorem Ob.set {B i : Nat} {w : World} {cur : Array Value} {t : TypeId} (g : w.heap[B]? = some (.cells cur t (0, 0))) (u : Value) : Ob B w (w.setCell ⟨B, i, none⟩ u) := ⟨by simp, fun k _ hk => (cells_set g i u).other k hk⟩
theorem VecAt.ob {α : Type} {S : Sty α} {w w' : World} {a : Option Addr} {n c B : Nat} {l : List α} (h : VecAt S w a n c l) (hj : Ob B w w') (hok : ∀ x, S.ok w x → S.ok w' x) (hne : ∀ b off s, a = some ⟨b, off, s⟩ → b ≠ B) : VecAt S w' a n c l :=
  ⟨h.len, h.cap, h.capm, h.nl, fun x hx => hok x (h.all x hx), fun hn => by
    obtain ⟨b, off, ha, hlt, hc⟩ := h.cells hn
    have hb : w'.heap[b]? = w.heap[b]? := hj.old b hlt (hne b off none ha)
    exact ⟨b, off, ha, Nat.lt_of_lt_of_le hlt hj.size, fun i hi j v hv => (World.cell?_of_block (w := w) (a := ⟨b, _, none⟩) hb).trans (hc i hi j v hv)⟩⟩
/-- an empty row made, appended to: what was there is as it was; the row lies above -/
theorem step_row {w w1 w2 : World} {T : TypeId} (B : Nat) (h1 : w1 = w.alloc (.cells #[] T)) (hg : w1.grownBy w2 (Value.slice (some ⟨w.heap.size, 0, none⟩) 0 0).ownBlock) : Ob B w w2 ∧ (∀ k, k < w.heap.size → w2.heap[k]? = w.heap[k]?) ∧ (∀ w0, Below w0.heap.size w0 w → Below w0.heap.size w0 w2) := by
  have hs : w1.heap.size = w.heap.size + 1 := by rw [h1]; exact Array.size_push _
  have hk : ∀ k, k < w.heap.size → w2.heap[k]? = w.heap[k]? := fun k hk => (hg.block k (by omega) (by simp [Value.ownBlock]; omega)).trans (by rw [h1]; exact hao9 _ _ _ hk)
  refine ⟨⟨by have := hg.size; omega, fun k h _ => hk k h⟩, hk, fun w0 hb => ?_⟩
  have hb1 : Below w0.heap.size w0 w1 := by rw [h1]; exact hb.alloc hb.size _
  exact hb1.grown hg hb1.size (fun k e => by simp [Value.ownBlock] at e; have := hb.size; omega)

set_option maxRecDepth 100000 in
set_option maxHeartbeats 8000000 in
theorem rtwin13_any {w : World} {s d hz : Int} {ea ma oa : Option Addr} {en ec mn mc on oc : Nat} {le : List EntV} {lm : List (Int × Int)} {lo : List (Int × Int × Int)} (hE : VecAt EntS w ea en ec le) (hM : VecAt MarkS w ma mn mc lm) (hO : VecAt OwnS w oa on oc lo) (hen : en ≤ 1000) (hmn : mn ≤ 1000) (hon : on ≤ 1000) :
    Calls Tryz.prog 8 #[.agg #[.int .i64 s, .int .i64 d, .int .i64 hz, .slice ea en ec, .slice ma mn mc, .slice oa on oc]] w fun e w' => ∃ ea' ec' ma' mc' oa' oc', e = .returned (.agg #[.int .i64 s, .int .i64 d, .int .i64 hz, .slice ea' en ec', .slice ma' mn mc', .slice oa' on oc']) ∧ VecAt EntS w' ea' en ec' le ∧ VecAt MarkS w' ma' mn mc' lm ∧ VecAt OwnS w' oa' on oc' lo ∧ Below w.heap.size w w' := by
  have h63 : en * 88 ≤ 140737488355328 ∧ mn * 16 ≤ 140737488355328 ∧ on * 24 ≤ 140737488355328 := by omega
  obtain ⟨wa, hwa⟩ : ∃ wa, wa = w.alloc (.cells #[.int .i64 s, .int .i64 d, .int .i64 hz, .slice ea en ec, .slice ma mn mc, .slice oa on oc] 26) := ⟨_, rfl⟩
  obtain ⟨w0, hw0⟩ : ∃ w0, w0 = wa.alloc (.cells #[.int .i64 0, .int .i64 0, .int .i64 0, .slice none 0 0, .slice none 0 0, .slice none 0 0] 26) := ⟨_, rfl⟩
  have sa : wa.heap.size = w.heap.size + 1 := by rw [hwa]; exact Array.size_push _
  have s0 : w0.heap.size = w.heap.size + 1 + 1 := by rw [hw0]; show (wa.heap.push _).size = _; rw [Array.size_push, sa]
  have b0 : Below w.heap.size w w0 := by
    have ba : Below w.heap.size w wa := by rw [hwa]; exact (Below.refl _ _).alloc (Nat.le_refl _) _
    rw [hw0]; exact ba.alloc ba.size _
  have g0 : w0.heap[w.heap.size]? = some (.cells #[.int .i64 s, .int .i64 d, .int .i64 hz, .slice ea en ec, .slice ma mn mc, .slice oa on oc] 26 (0, 0)) := by rw [hw0, hao9 _ _ _ (by omega), hwa]; exact heap_alloc_new _ _
  have r0 : w0.heap[w.heap.size + 1]? = some (.cells #[.int .i64 0, .int .i64 0, .int .i64 0, .slice none 0 0, .slice none 0 0, .slice none 0 0] 26 (0, 0)) := by rw [hw0, ← sa]; exact heap_alloc_new _ _
  have HM := Lib.hid hM
  have HO := Lib.hid hO
  have HE := Lib.hid hE
  have H63 := Lib.hid h63
  have HLW := Lib.hid (show w.heap.size < w0.heap.size ∧ w.heap.size + 1 < w0.heap.size from by omega)

  have hown1 := World.ownsRow_lit (base := w0.heap.size) (e := 53) (size := 9) w0 #[] 0 (Nat.le_refl _) (by unfold maxLen; omega) rfl
  have hve1 := (HE.out.kept (b0.alloc b0.size (.cells #[] 53)))
  have hsd1 : w0.heap.size ≤ (w0.alloc (.cells #[] 53)).heap.size := ((Below.refl w0.heap.size w0).alloc (Nat.le_refl _) _).size
  have a1 : w0.cell? ⟨w.heap.size, 3, none⟩ = some (.slice ea en ec) := cell_blk g0 rfl
  have t1 : w0.frozen? ⟨w.heap.size, 3, none⟩ = false := fro_blk g0 3
  have G1 := Lib.hid g0
  have R1 := Lib.hid r0
  have B1 := Lib.hid b0
  have SZ1 := Lib.hid s0
  rw [s0] at hown1 hsd1
  rw [hw0, hwa] at hown1 hve1 hsd1 a1 t1
  have HWE1 := Lib.hid (show ((w.alloc (.cells #[.int .i64 s, .int .i64 d, .int .i64 hz, .slice ea en ec, .slice ma mn mc, .slice oa on oc] 26)).alloc (.cells #[.int .i64 0, .int .i64 0, .int .i64 0, .slice none 0 0, .slice none 0 0, .slice none 0 0] 26)) = w0 from by rw [hw0, hwa])
  have HOW1 := Lib.hid hown1
  have HVE1 := Lib.hid hve1
  have HSD1 := Lib.hid hsd1
  clear hwa hw0 sa s0 b0 g0 r0 hown1 hve1 hsd1 hE hM hO h63
  go_enter Tryz.func8, Tryz.ntmps8
  go_wp2_with (at_builtin; refine wpList_append9E rfl (.tmp 3) (.tmp 5) rfl (w.heap.size + 1 + 1) _ 0 [] rfl HOW1.out _ _ _ _ rfl HVE1.out (by have := H63.out.1; omega) HSD1.out ?_)
  intro v1 q1 ho1 hg1
  try simp only [List.nil_append, Nat.zero_add] at ho1
  rw [HWE1.out] at hg1
  rw [← SZ1.out] at hg1
  obtain ⟨ob1, hk1, hbb1⟩ := step_row w.heap.size rfl hg1
  have gq1 := (hk1 w.heap.size (Array.getElem?_eq_some_iff.1 G1.out).1).trans G1.out
  have rq1 := (hk1 (w.heap.size + 1) (Array.getElem?_eq_some_iff.1 R1.out).1).trans R1.out
  have bq1 : Below w.heap.size w q1 := hbb1 w B1.out
  obtain ⟨e1, c1, rfl⟩ := own_slice9 ho1
  have hne1 := own_addr ho1
  have hv1 := VecAt.ofOwn (S := EntS) ho1 HE.out.len (fun x hx => EntS.mono bq1 (HE.out.all x hx))
  obtain ⟨w1, hw1x⟩ : ∃ w1, w1 = q1.setCell ⟨w.heap.size, 3, none⟩ (.slice e1 en c1) := ⟨_, rfl⟩
  have g1 : w1.heap[w.heap.size]? = some (.cells #[.int .i64 s, .int .i64 d, .int .i64 hz, .slice e1 en c1, .slice ma mn mc, .slice oa on oc] 26 (0, 0)) := by rw [hw1x]; exact heap_set gq1 3 _
  have r1 : w1.heap[w.heap.size + 1]? = some (.cells #[.int .i64 0, .int .i64 0, .int .i64 0, .slice none 0 0, .slice none 0 0, .slice none 0 0] 26 (0, 0)) := by rw [hw1x]; exact ((cells_set gq1 3 _).other (w.heap.size + 1) (by omega)).trans rq1
  have b1 : Below w.heap.size w w1 := by rw [hw1x]; exact bq1.setCell (p := ⟨w.heap.size, 3, none⟩) (Nat.le_refl _) _
  have s1 : w1.heap.size = q1.heap.size := by rw [hw1x]; simp
  have os1 : Ob w.heap.size q1 w1 := by rw [hw1x]; exact Ob.set gq1 _
  have hsz1 : w.heap.size + 1 < w.heap.size + 1 + 1 ∧ w.heap.size + 1 + 1 ≤ q1.heap.size := ⟨by omega, by have := ob1.size; have h2 := SZ1.out; omega⟩
  have hl1 : w.heap.size < q1.heap.size := by omega
  have hm1 : w.heap.size + 1 < q1.heap.size := by omega
  have HN1 := Lib.hid (show ∀ b off s, e1 = some ⟨b, off, s⟩ → b ≠ w.heap.size ∧ b ≠ w.heap.size + 1 from fun b off s e => by have := hne1 b off s e; omega)
  have HR1 := Lib.hid (hv1.ob os1 (fun _ h => h) (fun b off s e => (HN1.out b off s e).1))
  have a1b : q1.cell? ⟨w.heap.size, 3, none⟩ = some (.slice ea en ec) := cell_blk gq1 rfl
  have t1b : q1.frozen? ⟨w.heap.size, 3, none⟩ = false := fro_blk gq1 3
  clear ho1 hg1 ob1 hk1 hbb1 gq1 rq1 bq1 hne1 hv1 os1 a1 t1
  have hown2 := World.ownsRow_lit (base := w1.heap.size) (e := 43) (size := 2) w1 #[] 0 (Nat.le_refl _) (by unfold maxLen; omega) rfl
  have hve2 := (HM.out.kept (b1.alloc b1.size (.cells #[] 43)))
  have hsd2 : w1.heap.size ≤ (w1.alloc (.cells #[] 43)).heap.size := ((Below.refl w1.heap.size w1).alloc (Nat.le_refl _) _).size
  have a2 : w1.cell? ⟨w.heap.size, 4, none⟩ = some (.slice ma mn mc) := cell_blk g1 rfl
  have t2 : w1.frozen? ⟨w.heap.size, 4, none⟩ = false := fro_blk g1 4
  have G2 := Lib.hid g1
  have R2 := Lib.hid r1
  have B2 := Lib.hid b1
  have SZ2 := Lib.hid s1
  rw [s1] at hown2 hsd2
  rw [hw1x] at hown2 hve2 hsd2 a2 t2
  have HWE2 := Lib.hid (show q1.setCell ⟨w.heap.size, 3, none⟩ (.slice e1 en c1) = w1 from hw1x.symm)
  have HOW2 := Lib.hid hown2
  have HVE2 := Lib.hid hve2
  have HSD2 := Lib.hid hsd2
  clear hw1x s1 b1 g1 r1 hown2 hve2 hsd2
  go_wp2_with (at_builtin; refine wpList_append9M rfl (.tmp 8) (.tmp 10) rfl (q1.heap.size) _ 0 [] rfl HOW2.out _ _ _ _ rfl HVE2.out (by have := H63.out.2.1; omega) HSD2.out ?_)
  intro v2 q2 ho2 hg2
  try simp only [List.nil_append, Nat.zero_add] at ho2
  rw [HWE2.out] at hg2
  rw [← SZ2.out] at hg2
  obtain ⟨ob2, hk2, hbb2⟩ := step_row w.heap.size rfl hg2
  have gq2 := (hk2 w.heap.size (Array.getElem?_eq_some_iff.1 G2.out).1).trans G2.out
  have rq2 := (hk2 (w.heap.size + 1) (Array.getElem?_eq_some_iff.1 R2.out).1).trans R2.out
  have bq2 : Below w.heap.size w q2 := hbb2 w B2.out
  obtain ⟨e2, c2, rfl⟩ := own_slice9 ho2
  have hne2 := own_addr ho2
  have hv2 := VecAt.ofOwn (S := MarkS) ho2 HM.out.len (fun x hx => MarkS.mono bq2 (HM.out.all x hx))
  obtain ⟨w2, hw2x⟩ : ∃ w2, w2 = q2.setCell ⟨w.heap.size, 4, none⟩ (.slice e2 mn c2) := ⟨_, rfl⟩
  have g2 : w2.heap[w.heap.size]? = some (.cells #[.int .i64 s, .int .i64 d, .int .i64 hz, .slice e1 en c1, .slice e2 mn c2, .slice oa on oc] 26 (0, 0)) := by rw [hw2x]; exact heap_set gq2 4 _
  have r2 : w2.heap[w.heap.size + 1]? = some (.cells #[.int .i64 0, .int .i64 0, .int .i64 0, .slice none 0 0, .slice none 0 0, .slice none 0 0] 26 (0, 0)) := by rw [hw2x]; exact ((cells_set gq2 4 _).other (w.heap.size + 1) (by omega)).trans rq2
  have b2 : Below w.heap.size w w2 := by rw [hw2x]; exact bq2.setCell (p := ⟨w.heap.size, 4, none⟩) (Nat.le_refl _) _
  have s2 : w2.heap.size = q2.heap.size := by rw [hw2x]; simp
  have os2 : Ob w.heap.size q2 w2 := by rw [hw2x]; exact Ob.set gq2 _
  have hsz2 : w.heap.size + 1 < q1.heap.size ∧ q1.heap.size ≤ q2.heap.size := ⟨by have := hsz1; omega, by have := ob2.size; have h2 := SZ2.out; omega⟩
  have hl2 : w.heap.size < q2.heap.size := by omega
  have hm2 : w.heap.size + 1 < q2.heap.size := by omega
  have HN2 := Lib.hid (show ∀ b off s, e2 = some ⟨b, off, s⟩ → b ≠ w.heap.size ∧ b ≠ w.heap.size + 1 from fun b off s e => by have := hne2 b off s e; omega)
  have HR2 := Lib.hid (hv2.ob os2 (fun _ h => h) (fun b off s e => (HN2.out b off s e).1))
  have HR1 := Lib.hid ((HR1.out.ob ob2 (fun _ h => h) (fun b off s e => (HN1.out b off s e).1)).ob os2 (fun _ h => h) (fun b off s e => (HN1.out b off s e).1))
  have a2b : q2.cell? ⟨w.heap.size, 4, none⟩ = some (.slice ma mn mc) := cell_blk gq2 rfl
  have t2b : q2.frozen? ⟨w.heap.size, 4, none⟩ = false := fro_blk gq2 4
  clear ho2 hg2 ob2 hk2 hbb2 gq2 rq2 bq2 hne2 hv2 os2 a2 t2
  have hown3 := World.ownsRow_lit (base := w2.heap.size) (e := 45) (size := 3) w2 #[] 0 (Nat.le_refl _) (by unfold maxLen; omega) rfl
  have hve3 := (HO.out.kept (b2.alloc b2.size (.cells #[] 45)))
  have hsd3 : w2.heap.size ≤ (w2.alloc (.cells #[] 45)).heap.size := ((Below.refl w2.heap.size w2).alloc (Nat.le_refl _) _).size
  have a3 : w2.cell? ⟨w.heap.size, 5, none⟩ = some (.slice oa on oc) := cell_blk g2 rfl
  have t3 : w2.frozen? ⟨w.heap.size, 5, none⟩ = false := fro_blk g2 5
  have G3 := Lib.hid g2
  have R3 := Lib.hid r2
  have B3 := Lib.hid b2
  have SZ3 := Lib.hid s2
  rw [s2] at hown3 hsd3
  rw [hw2x] at hown3 hve3 hsd3 a3 t3
  have HWE3 := Lib.hid (show q2.setCell ⟨w.heap.size, 4, none⟩ (.slice e2 mn c2) = w2 from hw2x.symm)
  have HOW3 := Lib.hid hown3
  have HVE3 := Lib.hid hve3
  have HSD3 := Lib.hid hsd3
  clear hw2x s2 b2 g2 r2 hown3 hve3 hsd3
  go_wp2_with (at_builtin; refine wpList_append9O rfl (.tmp 13) (.tmp 15) rfl (q2.heap.size) _ 0 [] rfl HOW3.out _ _ _ _ rfl HVE3.out (by have := H63.out.2.2; omega) HSD3.out ?_)
  intro v3 q3 ho3 hg3
  try simp only [List.nil_append, Nat.zero_add] at ho3
  rw [HWE3.out] at hg3
  rw [← SZ3.out] at hg3
  obtain ⟨ob3, hk3, hbb3⟩ := step_row w.heap.size rfl hg3
  have gq3 := (hk3 w.heap.size (Array.getElem?_eq_some_iff.1 G3.out).1).trans G3.out
  have rq3 := (hk3 (w.heap.size + 1) (Array.getElem?_eq_some_iff.1 R3.out).1).trans R3.out
  have bq3 : Below w.heap.size w q3 := hbb3 w B3.out
  obtain ⟨e3, c3, rfl⟩ := own_slice9 ho3
  have hne3 := own_addr ho3
  have hv3 := VecAt.ofOwn (S := OwnS) ho3 HO.out.len (fun x hx => OwnS.mono bq3 (HO.out.all x hx))
  obtain ⟨w3, hw3x⟩ : ∃ w3, w3 = q3.setCell ⟨w.heap.size, 5, none⟩ (.slice e3 on c3) := ⟨_, rfl⟩
  have g3 : w3.heap[w.heap.size]? = some (.cells #[.int .i64 s, .int .i64 d, .int .i64 hz, .slice e1 en c1, .slice e2 mn c2, .slice e3 on c3] 26 (0, 0)) := by rw [hw3x]; exact heap_set gq3 5 _
  have r3 : w3.heap[w.heap.size + 1]? = some (.cells #[.int .i64 0, .int .i64 0, .int .i64 0, .slice none 0 0, .slice none 0 0, .slice none 0 0] 26 (0, 0)) := by rw [hw3x]; exact ((cells_set gq3 5 _).other (w.heap.size + 1) (by omega)).trans rq3
  have b3 : Below w.heap.size w w3 := by rw [hw3x]; exact bq3.setCell (p := ⟨w.heap.size, 5, none⟩) (Nat.le_refl _) _
  have s3 : w3.heap.size = q3.heap.size := by rw [hw3x]; simp
  have os3 : Ob w.heap.size q3 w3 := by rw [hw3x]; exact Ob.set gq3 _
  have hsz3 : w.heap.size + 1 < q2.heap.size ∧ q2.heap.size ≤ q3.heap.size := ⟨by have := hsz2; omega, by have := ob3.size; have h2 := SZ3.out; omega⟩
  have hl3 : w.heap.size < q3.heap.size := by omega
  have hm3 : w.heap.size + 1 < q3.heap.size := by omega
  have HN3 := Lib.hid (show ∀ b off s, e3 = some ⟨b, off, s⟩ → b ≠ w.heap.size ∧ b ≠ w.heap.size + 1 from fun b off s e => by have := hne3 b off s e; omega)
  have HR3 := Lib.hid (hv3.ob os3 (fun _ h => h) (fun b off s e => (HN3.out b off s e).1))
  have HR1 := Lib.hid ((HR1.out.ob ob3 (fun _ h => h) (fun b off s e => (HN1.out b off s e).1)).ob os3 (fun _ h => h) (fun b off s e => (HN1.out b off s e).1))
  have HR2 := Lib.hid ((HR2.out.ob ob3 (fun _ h => h) (fun b off s e => (HN2.out b off s e).1)).ob os3 (fun _ h => h) (fun b off s e => (HN2.out b off s e).1))
  have a3b : q3.cell? ⟨w.heap.size, 5, none⟩ = some (.slice oa on oc) := cell_blk gq3 rfl
  have t3b : q3.frozen? ⟨w.heap.size, 5, none⟩ = false := fro_blk gq3 5
  clear ho3 hg3 ob3 hk3 hbb3 gq3 rq3 bq3 hne3 hv3 os3 a3 t3
  have HRF := Lib.hid r3
  have HGF := Lib.hid g3
  have HBF := Lib.hid b3
  have z0 : w3.cell? ⟨w.heap.size, 0, none⟩ = some (.int .i64 s) := cell_blk g3 rfl
  have z1 : w3.cell? ⟨w.heap.size, 1, none⟩ = some (.int .i64 d) := cell_blk g3 rfl
  have z2 : w3.cell? ⟨w.heap.size, 2, none⟩ = some (.int .i64 hz) := cell_blk g3 rfl
  have z3 : w3.cell? ⟨w.heap.size, 3, none⟩ = some (.slice e1 en c1) := cell_blk g3 rfl
  have z4 : w3.cell? ⟨w.heap.size, 4, none⟩ = some (.slice e2 mn c2) := cell_blk g3 rfl
  have z5 : w3.cell? ⟨w.heap.size, 5, none⟩ = some (.slice e3 on c3) := cell_blk g3 rfl
  have y0 : w3.frozen? ⟨w.heap.size + 1, 0, none⟩ = false := fro_blk r3 0
  have y1 : w3.frozen? ⟨w.heap.size + 1, 1, none⟩ = false := fro_blk r3 1
  have y2 : w3.frozen? ⟨w.heap.size + 1, 2, none⟩ = false := fro_blk r3 2
  have y3 : w3.frozen? ⟨w.heap.size + 1, 3, none⟩ = false := fro_blk r3 3
  have y4 : w3.frozen? ⟨w.heap.size + 1, 4, none⟩ = false := fro_blk r3 4
  have y5 : w3.frozen? ⟨w.heap.size + 1, 5, none⟩ = false := fro_blk r3 5
  have x0 : w3.cell? ⟨w.heap.size + 1, 0, none⟩ = some (.int .i64 0) := cell_blk r3 rfl
  have x1 : w3.cell? ⟨w.heap.size + 1, 1, none⟩ = some (.int .i64 0) := cell_blk r3 rfl
  have x2 : w3.cell? ⟨w.heap.size + 1, 2, none⟩ = some (.int .i64 0) := cell_blk r3 rfl
  have x3 : w3.cell? ⟨w.heap.size + 1, 3, none⟩ = some (.slice none 0 0) := cell_blk r3 rfl
  have x4 : w3.cell? ⟨w.heap.size + 1, 4, none⟩ = some (.slice none 0 0) := cell_blk r3 rfl
  have x5 : w3.cell? ⟨w.heap.size + 1, 5, none⟩ = some (.slice none 0 0) := cell_blk r3 rfl
  rw [hw3x] at z0 z1 z2 z3 z4 z5 y0 y1 y2 y3 y4 y5 x0 x1 x2 x3 x4 x5
  have HW3 := Lib.hid hw3x.symm
  clear hw3x s3 b3 g3 r3
  go_wp2_with fail
  have hr9 := set6 HRF.out (.int .i64 s) (.int .i64 d) (.int .i64 hz) (.slice e1 en c1) (.slice e2 mn c2) (.slice e3 on c3)
  rw [HW3.out]
  refine bodyPost_ret (v := .agg #[.int .i64 s, .int .i64 d, .int .i64 hz, .slice e1 en c1, .slice e2 mn c2, .slice e3 on c3]) (by simp [results, Tryz.results8, go_sem, cell_blk hr9]) rfl ?_
  exact ⟨_, _, _, _, _, _, rfl, vec6o HR1.out (fun _ _ _ h => h) (fun b off s e => (HN1.out b off s e).2) _ _ _ _ _ _, vec6o HR2.out (fun _ _ _ h => h) (fun b off s e => (HN2.out b off s e).2) _ _ _ _ _ _, vec6o HR3.out (fun _ _ _ h => h) (fun b off s e => (HN3.out b off s e).2) _ _ _ _ _ _, below6 HBF.out (by omega) _ _ _ _ _ _⟩
end Go.Proofs.YtbdgcfimbblncaaGreatDoor
end PkMC5_3
section PkMC5_4
/- Manifests: the document's numbers and keys, walked. -/
namespace Go.Proofs.YtbdgcfimbblncaaGreatDoor
open Go.RowKit LabPlain
set_option linter.unusedVariables false

def numB (n a : Int) : Bool := decide (a ≤ n) && decide (n ≤ 1099511627775)
set_option maxRecDepth 100000 in
theorem rnum_any (n a : Int) (w : World) : Calls Tryz.prog 30 #[.int .i64 n, .int .i64 a] w fun e w' => e = .returned (.bool (numB n a)) ∧ w' = w := by
  by_cases h1 : a ≤ n
  · by_cases h2 : n ≤ 1099511627775
    · have HT := Lib.hid (show numB n a = true from by simp [numB, h1, h2])
      go_enter Tryz.func30, Tryz.ntmps30
      go_wp2_with fail
      go_ret
      exact ⟨by rw [HT.out]; rfl, rfl⟩
    · have HT := Lib.hid (show numB n a = false from by simp [numB, h2])
      go_enter Tryz.func30, Tryz.ntmps30
      go_wp2_with fail
      go_ret
      exact ⟨by rw [HT.out]; rfl, rfl⟩
  · have HT := Lib.hid (show numB n a = false from by simp [numB, h1])
    go_enter Tryz.func30, Tryz.ntmps30
    go_wp2_with fail
    go_ret
    exact ⟨by rw [HT.out]; rfl, rfl⟩
set_option maxRecDepth 100000 in
set_option maxHeartbeats 1000000 in
theorem rkey_any (s : ByteArray) (hs : s.size ≤ 9223372036854775807) (w : World) :
    Calls Tryz.prog 81 #[.string s] w fun e w' => e = .returned (.bool (keyB s)) ∧ w' = w := by
  by_cases h1 : s.size < 1
  · have hR := Lib.hid (show keyB s = false by unfold keyB; simp [show ¬ 1 ≤ s.size by omega])
    have h1i : (s.size : Int) < 1 := by omega
    clear h1
    go_enter Tryz.func81, Tryz.ntmps81
    go_wp2_with fail
    go_ret
    rw [hR.out]; exact ⟨rfl, rfl⟩
  · by_cases h8 : 40 < s.size
    · have hR := Lib.hid (show keyB s = false by unfold keyB; simp [show ¬ s.size ≤ 40 by omega])
      have h1i : (1 : Int) ≤ (s.size : Int) := by omega
      have h8i : (40 : Int) < (s.size : Int) := by omega
      clear h1 h8
      go_enter Tryz.func81, Tryz.ntmps81
      go_wp2_with fail
      go_ret
      rw [hR.out]; exact ⟨rfl, rfl⟩
    · have h1i : (1 : Int) ≤ (s.size : Int) := by omega
      have h8i : (s.size : Int) ≤ 40 := by omega
      have hR := Lib.hid (show keyB s = allK s s.size by unfold keyB; rw [decide_eq_true (show 1 ≤ s.size by omega), decide_eq_true (show s.size ≤ 40 by omega)]; rfl)
      clear h1 h8
      go_enter Tryz.func81, Tryz.ntmps81
      go_wp2_with fail
      go_loop [3] (fun s3 => ∃ k : Nat, k ≤ s.size ∧ s3 = .int .i64 (k : Int) ∧ Hid (allK s k = true)) (fun s3 => s.size - (intOf s3).toNat)
      case atStart => exact ⟨0, by omega, rfl, Lib.hid rfl⟩
      case round =>
        obtain ⟨k, hk, rfl, HA⟩ := hrel
        by_cases hks : k < s.size
        · obtain ⟨c, hc⟩ : ∃ c, c = at_ s k := ⟨_, rfl⟩
          have hsk : (s[k]'hks).toNat = c := by rw [hc, at_get s k hks]
          have hcl : c < 256 := by rw [hc]; exact at_lt s k
          have HCK := Lib.hid hc
          have HNO := Lib.hid (show (decide (33 ≤ c) && decide (c ≤ 126)) = false → keyB s = false from fun hb => by
            rw [hR.out]
            have := allK_no (s := s) (k := k) (by rw [← hc]; exact hb) (s.size - (k + 1))
            rw [show k + 1 + (s.size - (k + 1)) = s.size from by omega] at this
            exact this)
          clear hc
          by_cases h33 : c ≤ 32
          · have h33i : (c : Int) ≤ 32 := by omega
            have HF := Lib.hid (HNO.out (by simp [show ¬ 33 ≤ c by omega]))
            clear h33
            go_wp2_with fail
            go_ret
            rw [HF.out]; exact ⟨rfl, rfl⟩
          · have h33i : (32 : Int) < (c : Int) := by omega
            by_cases h126 : 127 ≤ c
            · have h126i : (127 : Int) ≤ (c : Int) := by omega
              have HF := Lib.hid (HNO.out (by simp [show ¬ c ≤ 126 by omega]))
              clear h33 h126
              go_wp2_with fail
              go_ret
              rw [HF.out]; exact ⟨rfl, rfl⟩
            · have h126i : (c : Int) < 127 := by omega
              have HA2 := Lib.hid (show allK s (k + 1) = true by rw [allK, HA.out, ← HCK.out, decide_eq_true (show 33 ≤ c by omega), decide_eq_true (show c ≤ 126 by omega)]; rfl)
              clear h33 h126
              go_wp2_with fail
              go_round
              case rel => exact ⟨k + 1, by omega, by go_num, HA2⟩
              case measure => simp [intOf]; omega
        · obtain rfl : k = s.size := by omega
          have HT := Lib.hid (show keyB s = true by rw [hR.out]; exact HA.out)
          clear hks
          go_wp2_with fail
          go_ret
          rw [HT.out]; exact ⟨rfl, rfl⟩
end Go.Proofs.YtbdgcfimbblncaaGreatDoor
end PkMC5_4
section PkMC5_5
/- Manifests: the document's marks and owners, walked. Written by genmfq.py. -/
namespace Go.Proofs.YtbdgcfimbblncaaGreatDoor
open Go.RowKit LabPlain
set_option linter.unusedVariables false

def markB (x : Int × Int) : Bool := (decide (1 ≤ x.1) && decide (x.1 ≤ 64)) && numB x.2 1
def ownerB (x : Int × Int × Int) : Bool := (decide (1 ≤ x.1) && decide (x.1 ≤ 8)) && (numB x.2.1 1 && numB x.2.2 1)

set_option maxRecDepth 100000 in
theorem rmark_any (x0 x1 : Int) (w : World) : Calls Tryz.prog 79 #[.agg #[.int .i64 x0, .int .i64 x1]] w fun e w' => e = .returned (.bool (markB (x0, x1))) ∧ Below w.heap.size w w' := by
  have HB := Lib.hid ((Below.refl w.heap.size w).alloc (Nat.le_refl _) (.cells #[.int .i64 x0, .int .i64 x1] 43))
  obtain ⟨b0, hb0⟩ : ∃ b, b = numB x1 1 := ⟨_, rfl⟩
  have HW0 := Lib.hid (show ∀ W, Calls Tryz.prog 30 #[.int .i64 x1, .int .i64 1] W fun e w' => e = .returned (.bool b0) ∧ w' = W from fun W => by rw [hb0]; exact rnum_any _ _ W)
  have HV := Lib.hid (show markB (x0, x1) = ((decide (1 ≤ x0) && decide (x0 ≤ 64)) && b0) from by rw [hb0]; rfl)
  clear hb0
  go_enter Tryz.func79, Tryz.ntmps79
  by_cases h1 : 1 ≤ x0
  · by_cases h2 : x0 ≤ 64
    · have HV2 := Lib.hid (HV.out.trans (by rw [decide_eq_true h1, decide_eq_true h2]; rfl : ((decide (1 ≤ x0) && decide (x0 ≤ 64)) && b0) = b0))
      go_wp2_with fail
      refine (HW0.out _).mono ?_
      rintro e w1 ⟨rfl, rfl⟩
      cases b0 with
      | false =>
        go_wp2_with fail
        go_ret
        exact ⟨by rw [HV2.out]; rfl, HB.out⟩
      | true =>
        go_wp2_with fail
        go_ret
        exact ⟨by rw [HV2.out]; rfl, HB.out⟩
    · have HV2 := Lib.hid (HV.out.trans (by rw [decide_eq_false h2, Bool.and_false]; rfl : ((decide (1 ≤ x0) && decide (x0 ≤ 64)) && b0) = false))
      go_wp2_with fail
      go_ret
      exact ⟨by rw [HV2.out]; rfl, HB.out⟩
  · have HV2 := Lib.hid (HV.out.trans (by rw [decide_eq_false h1]; rfl : ((decide (1 ≤ x0) && decide (x0 ≤ 64)) && b0) = false))
    go_wp2_with fail
    go_ret
    exact ⟨by rw [HV2.out]; rfl, HB.out⟩

set_option maxRecDepth 100000 in
theorem rowner_any (x0 x1 x2 : Int) (w : World) : Calls Tryz.prog 33 #[.agg #[.int .i64 x0, .int .i64 x1, .int .i64 x2]] w fun e w' => e = .returned (.bool (ownerB (x0, x1, x2))) ∧ Below w.heap.size w w' := by
  have HB := Lib.hid ((Below.refl w.heap.size w).alloc (Nat.le_refl _) (.cells #[.int .i64 x0, .int .i64 x1, .int .i64 x2] 45))
  obtain ⟨b0, hb0⟩ : ∃ b, b = numB x1 1 := ⟨_, rfl⟩
  have HW0 := Lib.hid (show ∀ W, Calls Tryz.prog 30 #[.int .i64 x1, .int .i64 1] W fun e w' => e = .returned (.bool b0) ∧ w' = W from fun W => by rw [hb0]; exact rnum_any _ _ W)
  obtain ⟨b1, hb1⟩ : ∃ b, b = numB x2 1 := ⟨_, rfl⟩
  have HW1 := Lib.hid (show ∀ W, Calls Tryz.prog 30 #[.int .i64 x2, .int .i64 1] W fun e w' => e = .returned (.bool b1) ∧ w' = W from fun W => by rw [hb1]; exact rnum_any _ _ W)
  have HV := Lib.hid (show ownerB (x0, x1, x2) = ((decide (1 ≤ x0) && decide (x0 ≤ 8)) && (b0 && b1)) from by rw [hb0, hb1]; rfl)
  clear hb0 hb1
  go_enter Tryz.func33, Tryz.ntmps33
  by_cases h1 : 1 ≤ x0
  · by_cases h2 : x0 ≤ 8
    · have HV2 := Lib.hid (HV.out.trans (by rw [decide_eq_true h1, decide_eq_true h2]; rfl : ((decide (1 ≤ x0) && decide (x0 ≤ 8)) && (b0 && b1)) = (b0 && b1)))
      go_wp2_with fail
      refine (HW0.out _).mono ?_
      rintro e w1 ⟨rfl, rfl⟩
      cases b0 with
      | false =>
        go_wp2_with fail
        go_ret
        exact ⟨by rw [HV2.out]; rfl, HB.out⟩
      | true =>
        go_wp2_with fail
        refine (HW1.out _).mono ?_
        rintro e w1 ⟨rfl, rfl⟩
        cases b1 with
        | false =>
          go_wp2_with fail
          go_ret
          exact ⟨by rw [HV2.out]; rfl, HB.out⟩
        | true =>
          go_wp2_with fail
          go_ret
          exact ⟨by rw [HV2.out]; rfl, HB.out⟩
    · have HV2 := Lib.hid (HV.out.trans (by rw [decide_eq_false h2, Bool.and_false]; rfl : ((decide (1 ≤ x0) && decide (x0 ≤ 8)) && (b0 && b1)) = false))
      go_wp2_with fail
      go_ret
      exact ⟨by rw [HV2.out]; rfl, HB.out⟩
  · have HV2 := Lib.hid (HV.out.trans (by rw [decide_eq_false h1]; rfl : ((decide (1 ≤ x0) && decide (x0 ≤ 8)) && (b0 && b1)) = false))
    go_wp2_with fail
    go_ret
    exact ⟨by rw [HV2.out]; rfl, HB.out⟩

end Go.Proofs.YtbdgcfimbblncaaGreatDoor
end PkMC5_5
section PkMC5_6
/- Manifests: the document's marks of any list, walked. Written by genrmarks.py. -/
namespace Go.Proofs.YtbdgcfimbblncaaGreatDoor
open Go.RowKit LabPlain
set_option linter.unusedVariables false

theorem cell_blk' {w : World} {B : Nat} {cur : Array Value} {t : TypeId} (g : w.heap[B]? = some (.cells cur t (0, 0))) {i : Nat} {u : Value} (h : cur[i]? = some u) : w.cell? ⟨B, i, none⟩ = some u := by rw [cell_of_row w _ _ _ _ (0, 0) g]; exact h

set_option maxRecDepth 100000 in
set_option maxHeartbeats 8000000 in
theorem rmarks_any {w : World} {a : Option Addr} {n c : Nat} {l : List (Int × Int)} (h : VecAt MarkS w a n c l) :
    Calls Tryz.prog 31 #[.slice a n c] w fun e w' => RisIs markB (fun a b => a.1 - b.1) MarkS.z l n e ∧ Below w.heap.size w w' := by
  have hcap := h.cap
  have hcm := h.capm
  have HH := Lib.hid h
  clear h
  go_enter Tryz.func31, Tryz.ntmps31
  go_wp2_with fail
  go_loopw [3, 4, 7] (fun _ _ s7 wr => ∃ k : Nat, k ≤ n ∧ s7 = .int .i64 (k : Int) ∧ Hid (RisOk markB (fun a b => a.1 - b.1) MarkS.z l k) ∧ Hid (Below w.heap.size w wr)) (fun _ _ s7 _ => n - (intOf s7).toNat)
  case atStart => exact ⟨0, by omega, rfl, Lib.hid (fun j hj => by omega), Lib.hid (Below.refl _ _)⟩
  case round =>
    obtain ⟨k, hk, rfl, HOK, HB⟩ := hrel
    rename World => wr
    by_cases hkn : k < n
    · have hki : (k : Int) < (n : Int) := by omega
      obtain ⟨sb, so, rfl, hsl, hok, hsc9⟩ := (HH.out.kept HB.out).get hkn
      obtain ⟨s, hse⟩ : ∃ s, s = l.getD k MarkS.z := ⟨_, rfl⟩
      obtain ⟨r, hre⟩ : ∃ r, r = l.getD (k - 1) MarkS.z := ⟨_, rfl⟩
      rw [← hse] at hsc9
      have HSE := Lib.hid hse
      have HRE := Lib.hid hre
      have HSY := Lib.hid (show ∀ j u, (MarkS.f r)[j]? = some u → wr.cell? ⟨sb, so + (k - 1) * 2 + j, none⟩ = some u from by
        obtain ⟨sb2, so2, e2, _, _, hy⟩ := (HH.out.kept HB.out).get (show k - 1 < n by omega)
        cases e2
        rw [← hre] at hy
        exact hy)
      obtain ⟨x0, x1⟩ := s
      obtain ⟨y0, y1⟩ := r
      have d0 : wr.cell? ⟨sb, so + k * 2, none⟩ = some (.int .i64 x0) := hsc9 0 _ rfl
      have d1 : wr.cell? ⟨sb, so + k * 2 + 1, none⟩ = some (.int .i64 x1) := hsc9 1 _ rfl
      have HXA := Lib.hid (heap_alloc_new wr (.cells #[.int .i64 x0, .int .i64 x1] 43))
      have HXL := Lib.hid ((Array.getElem?_eq_some_iff.1 (heap_alloc_new wr (.cells #[.int .i64 x0, .int .i64 x1] 43))).1)
      have HAL := Lib.hid (show Below w.heap.size w (wr.alloc (.cells #[.int .i64 x0, .int .i64 x1] 43)) from HB.out.alloc HB.out.size _)
      obtain ⟨bx, hbx⟩ : ∃ bx, bx = markB (x0, x1) := ⟨_, rfl⟩
      have HBX := Lib.hid hbx
      have HSLA := Lib.hid (show sb < (wr.alloc (.cells #[.int .i64 x0, .int .i64 x1] 43)).heap.size from Nat.lt_of_lt_of_le hsl ((Below.refl wr.heap.size wr).alloc (Nat.le_refl _) _).size)
      have HSYA := Lib.hid (show ∀ j u, (MarkS.f (y0, y1))[j]? = some u → (wr.alloc (.cells #[.int .i64 x0, .int .i64 x1] 43)).cell? ⟨sb, so + (k - 1) * 2 + j, none⟩ = some u from fun j u hu => (((Below.refl wr.heap.size wr).alloc (Nat.le_refl _) (.cells #[.int .i64 x0, .int .i64 x1] 43)).cell (p := ⟨sb, so + (k - 1) * 2 + j, none⟩) hsl).trans (HSY.out j u hu))
      have HRX := Lib.hid (show ∀ W9, Below (wr.alloc (.cells #[.int .i64 x0, .int .i64 x1] 43)).heap.size (wr.alloc (.cells #[.int .i64 x0, .int .i64 x1] 43)) W9 → Calls Tryz.prog 79 #[.agg #[.int .i64 x0, .int .i64 x1]] W9 fun e w' => e = .returned (.bool bx) ∧ Below W9.heap.size W9 w' from fun W9 hB => by
        rw [hbx]
        exact rmark_any x0 x1 W9)
      clear hsc9 hse hre hsl hok HSY
      have HSL := HSLA
      have HSY := HSYA
      clear HSLA HSYA
      go_wp2_with fail
      cases bx with
      | false =>
        have HNO := Lib.hid (RisIs.no (p := markB) (cm := fun a b => a.1 - b.1) (d := MarkS.z) (l := l) hkn (fun g => by have h1 := g.1; rw [← HSE.out, ← HBX.out] at h1; cases h1))
        clear hbx
        refine wp_region_fill (by kernel_rfl) (by kernel_rfl) (by kernel_rfl) (Below (wr.alloc (.cells #[.int .i64 x0, .int .i64 x1] 43)).heap.size (wr.alloc (.cells #[.int .i64 x0, .int .i64 x1] 43))) (FV (fun j_9 => match j_9 with | 0 => some (.agg #[.int .i64 x0, .int .i64 x1]) | 1 => some (.bool false) | 2 => some (.bool true) | 3 => some (.bool true) | 4 => some (undef) | 5 => some (undef) | 6 => some (undef) | 7 => some (undef) | 8 => some (undef) | 9 => some (undef) | 10 => some (undef) | 11 => some (undef) | 12 => some (undef) | 13 => some (undef) | 14 => some (undef) | 15 => some (undef) | 16 => some (undef) | 17 => some (.bool true) | _ => none) (fun _ _ => True)) (Below.refl _ _).drew ?_ ?_
        · intro i9 o ho V w9 K hJ hdep hK
          have HJ := Lib.hid hJ
          simp only [fill, slotOf, List.size_toArray, List.length_cons, List.length_nil, Nat.reduceAdd, List.getElem?_toArray, List.getElem?_cons_zero, List.getElem?_cons_succ, Option.bind_some, Act.put, List.setIfInBounds_toArray, List.set_cons_zero, List.set_cons_succ] at hK ⊢
          have hin : i9 < 18 := (Array.getElem?_eq_some_iff.1 ho).1
          have hcs : i9 = 0 ∨ i9 = 1 ∨ i9 = 2 ∨ i9 = 3 ∨ i9 = 4 ∨ i9 = 5 ∨ i9 = 6 ∨ i9 = 7 ∨ i9 = 8 ∨ i9 = 9 ∨ i9 = 10 ∨ i9 = 11 ∨ i9 = 12 ∨ i9 = 13 ∨ i9 = 14 ∨ i9 = 15 ∨ i9 = 16 ∨ i9 = 17 := by omega
          clear hin
          rcases hcs with rfl | rfl | rfl | rfl | rfl | rfl | rfl | rfl | rfl | rfl | rfl | rfl | rfl | rfl | rfl | rfl | rfl | rfl
          · obtain rfl := Option.some.inj ho.symm
            have e0 : w9.cell? ⟨wr.heap.size, 0, none⟩ = some (.int .i64 x0) := (hJ.cell (p := ⟨wr.heap.size, 0, none⟩) HXL.out).trans (cell_blk' HXA.out rfl)
            have e1 : w9.cell? ⟨wr.heap.size, 1, none⟩ = some (.int .i64 x1) := (hJ.cell (p := ⟨wr.heap.size, 1, none⟩) HXL.out).trans (cell_blk' HXA.out rfl)
            clear hdep ho hJ
            try simp only [fill, slotOf, List.size_toArray, List.length_cons, List.length_nil, Nat.reduceAdd, List.getElem?_toArray, List.getElem?_cons_zero, List.getElem?_cons_succ, Option.bind_some, Act.put, List.setIfInBounds_toArray, List.set_cons_zero, List.set_cons_succ] at hK ⊢
            go_simp
            exact hK (.agg #[.int .i64 x0, .int .i64 x1]) _ HJ.out rfl (fun j y h => h) _ rfl
          · obtain rfl := Option.some.inj ho.symm
            have d0 : V 0 = .agg #[.int .i64 x0, .int .i64 x1] := hdep ⟨0, .data⟩ (by simp) rfl
            clear hdep ho hJ
            try simp only [fill, slotOf, List.size_toArray, List.length_cons, List.length_nil, Nat.reduceAdd, List.getElem?_toArray, List.getElem?_cons_zero, List.getElem?_cons_succ, Option.bind_some, Act.put, List.setIfInBounds_toArray, List.set_cons_zero, List.set_cons_succ] at hK ⊢
            rw [d0] at hK ⊢
            go_simp
            refine (HRX.out w9 HJ.out).mono ?_
            rintro e w8 ⟨rfl, hb8⟩
            exact hK (.bool false) _ (HJ.out.trans (hb8.mono HJ.out.size)) rfl (FV.mono ((fun _ _ _ => trivial) hb8)) _ rfl
          · obtain rfl := Option.some.inj ho.symm
            have d1 : V 1 = .bool false := hdep ⟨1, .data⟩ (by simp) rfl
            clear hdep ho hJ
            try simp only [fill, slotOf, List.size_toArray, List.length_cons, List.length_nil, Nat.reduceAdd, List.getElem?_toArray, List.getElem?_cons_zero, List.getElem?_cons_succ, Option.bind_some, Act.put, List.setIfInBounds_toArray, List.set_cons_zero, List.set_cons_succ] at hK ⊢
            rw [d1] at hK ⊢
            go_simp
            exact hK (.bool true) _ HJ.out rfl (fun j y h => h) _ rfl
          · obtain rfl := Option.some.inj ho.symm
            have d2 : V 2 = .bool true := hdep ⟨2, .data⟩ (by simp) rfl
            clear hdep ho hJ
            try simp only [fill, slotOf, List.size_toArray, List.length_cons, List.length_nil, Nat.reduceAdd, List.getElem?_toArray, List.getElem?_cons_zero, List.getElem?_cons_succ, Option.bind_some, Act.put, List.setIfInBounds_toArray, List.set_cons_zero, List.set_cons_succ] at hK ⊢
            rw [d2] at hK ⊢
            go_simp
            exact hK (.bool true) _ HJ.out rfl (fun j y h => h) _ rfl
          · obtain rfl := Option.some.inj ho.symm
            have d3 : V 3 = .bool true := hdep ⟨3, .guard⟩ (by simp) rfl
            clear hdep ho hJ
            try simp only [fill, slotOf, List.size_toArray, List.length_cons, List.length_nil, Nat.reduceAdd, List.getElem?_toArray, List.getElem?_cons_zero, List.getElem?_cons_succ, Option.bind_some, Act.put, List.setIfInBounds_toArray, List.set_cons_zero, List.set_cons_succ] at hK ⊢
            rw [d3] at hK ⊢
            go_simp
            exact hK (undef) _ HJ.out rfl (fun j y h => h) _ rfl
          · obtain rfl := Option.some.inj ho.symm
            have d3 : V 3 = .bool true := hdep ⟨3, .guard⟩ (by simp) rfl
            clear hdep ho hJ
            try simp only [fill, slotOf, List.size_toArray, List.length_cons, List.length_nil, Nat.reduceAdd, List.getElem?_toArray, List.getElem?_cons_zero, List.getElem?_cons_succ, Option.bind_some, Act.put, List.setIfInBounds_toArray, List.set_cons_zero, List.set_cons_succ] at hK ⊢
            rw [d3] at hK ⊢
            go_simp
            exact hK (undef) _ HJ.out rfl (fun j y h => h) _ rfl
          · obtain rfl := Option.some.inj ho.symm
            have d3 : V 3 = .bool true := hdep ⟨3, .guard⟩ (by simp) rfl
            clear hdep ho hJ
            try simp only [fill, slotOf, List.size_toArray, List.length_cons, List.length_nil, Nat.reduceAdd, List.getElem?_toArray, List.getElem?_cons_zero, List.getElem?_cons_succ, Option.bind_some, Act.put, List.setIfInBounds_toArray, List.set_cons_zero, List.set_cons_succ] at hK ⊢
            rw [d3] at hK ⊢
            go_simp
            exact hK (undef) _ HJ.out rfl (fun j y h => h) _ rfl
          · obtain rfl := Option.some.inj ho.symm
            have d6 : V 6 = undef := hdep ⟨6, .guard⟩ (by simp) rfl
            clear hdep ho hJ
            try simp only [fill, slotOf, List.size_toArray, List.length_cons, List.length_nil, Nat.reduceAdd, List.getElem?_toArray, List.getElem?_cons_zero, List.getElem?_cons_succ, Option.bind_some, Act.put, List.setIfInBounds_toArray, List.set_cons_zero, List.set_cons_succ] at hK ⊢
            rw [d6] at hK ⊢
            go_simp
            exact hK (undef) _ HJ.out rfl (fun j y h => h) _ rfl
          · obtain rfl := Option.some.inj ho.symm
            have d6 : V 6 = undef := hdep ⟨6, .guard⟩ (by simp) rfl
            clear hdep ho hJ
            try simp only [fill, slotOf, List.size_toArray, List.length_cons, List.length_nil, Nat.reduceAdd, List.getElem?_toArray, List.getElem?_cons_zero, List.getElem?_cons_succ, Option.bind_some, Act.put, List.setIfInBounds_toArray, List.set_cons_zero, List.set_cons_succ] at hK ⊢
            rw [d6] at hK ⊢
            go_simp
            exact hK (undef) _ HJ.out rfl (fun j y h => h) _ rfl
          · obtain rfl := Option.some.inj ho.symm
            have d6 : V 6 = undef := hdep ⟨6, .guard⟩ (by simp) rfl
            clear hdep ho hJ
            try simp only [fill, slotOf, List.size_toArray, List.length_cons, List.length_nil, Nat.reduceAdd, List.getElem?_toArray, List.getElem?_cons_zero, List.getElem?_cons_succ, Option.bind_some, Act.put, List.setIfInBounds_toArray, List.set_cons_zero, List.set_cons_succ] at hK ⊢
            rw [d6] at hK ⊢
            go_simp
            exact hK (undef) _ HJ.out rfl (fun j y h => h) _ rfl
          · obtain rfl := Option.some.inj ho.symm
            have d6 : V 6 = undef := hdep ⟨6, .guard⟩ (by simp) rfl
            clear hdep ho hJ
            try simp only [fill, slotOf, List.size_toArray, List.length_cons, List.length_nil, Nat.reduceAdd, List.getElem?_toArray, List.getElem?_cons_zero, List.getElem?_cons_succ, Option.bind_some, Act.put, List.setIfInBounds_toArray, List.set_cons_zero, List.set_cons_succ] at hK ⊢
            rw [d6] at hK ⊢
            go_simp
            exact hK (undef) _ HJ.out rfl (fun j y h => h) _ rfl
          · obtain rfl := Option.some.inj ho.symm
            have d6 : V 6 = undef := hdep ⟨6, .guard⟩ (by simp) rfl
            clear hdep ho hJ
            try simp only [fill, slotOf, List.size_toArray, List.length_cons, List.length_nil, Nat.reduceAdd, List.getElem?_toArray, List.getElem?_cons_zero, List.getElem?_cons_succ, Option.bind_some, Act.put, List.setIfInBounds_toArray, List.set_cons_zero, List.set_cons_succ] at hK ⊢
            rw [d6] at hK ⊢
            go_simp
            exact hK (undef) _ HJ.out rfl (fun j y h => h) _ rfl
          · obtain rfl := Option.some.inj ho.symm
            have d6 : V 6 = undef := hdep ⟨6, .guard⟩ (by simp) rfl
            clear hdep ho hJ
            try simp only [fill, slotOf, List.size_toArray, List.length_cons, List.length_nil, Nat.reduceAdd, List.getElem?_toArray, List.getElem?_cons_zero, List.getElem?_cons_succ, Option.bind_some, Act.put, List.setIfInBounds_toArray, List.set_cons_zero, List.set_cons_succ] at hK ⊢
            rw [d6] at hK ⊢
            go_simp
            exact hK (undef) _ HJ.out rfl (fun j y h => h) _ rfl
          · obtain rfl := Option.some.inj ho.symm
            have d6 : V 6 = undef := hdep ⟨6, .guard⟩ (by simp) rfl
            clear hdep ho hJ
            try simp only [fill, slotOf, List.size_toArray, List.length_cons, List.length_nil, Nat.reduceAdd, List.getElem?_toArray, List.getElem?_cons_zero, List.getElem?_cons_succ, Option.bind_some, Act.put, List.setIfInBounds_toArray, List.set_cons_zero, List.set_cons_succ] at hK ⊢
            rw [d6] at hK ⊢
            go_simp
            exact hK (undef) _ HJ.out rfl (fun j y h => h) _ rfl
          · obtain rfl := Option.some.inj ho.symm
            have d6 : V 6 = undef := hdep ⟨6, .guard⟩ (by simp) rfl
            clear hdep ho hJ
            try simp only [fill, slotOf, List.size_toArray, List.length_cons, List.length_nil, Nat.reduceAdd, List.getElem?_toArray, List.getElem?_cons_zero, List.getElem?_cons_succ, Option.bind_some, Act.put, List.setIfInBounds_toArray, List.set_cons_zero, List.set_cons_succ] at hK ⊢
            rw [d6] at hK ⊢
            go_simp
            exact hK (undef) _ HJ.out rfl (fun j y h => h) _ rfl
          · obtain rfl := Option.some.inj ho.symm
            have d6 : V 6 = undef := hdep ⟨6, .guard⟩ (by simp) rfl
            clear hdep ho hJ
            try simp only [fill, slotOf, List.size_toArray, List.length_cons, List.length_nil, Nat.reduceAdd, List.getElem?_toArray, List.getElem?_cons_zero, List.getElem?_cons_succ, Option.bind_some, Act.put, List.setIfInBounds_toArray, List.set_cons_zero, List.set_cons_succ] at hK ⊢
            rw [d6] at hK ⊢
            go_simp
            exact hK (undef) _ HJ.out rfl (fun j y h => h) _ rfl
          · obtain rfl := Option.some.inj ho.symm
            have d3 : V 3 = .bool true := hdep ⟨3, .guard⟩ (by simp) rfl
            clear hdep ho hJ
            try simp only [fill, slotOf, List.size_toArray, List.length_cons, List.length_nil, Nat.reduceAdd, List.getElem?_toArray, List.getElem?_cons_zero, List.getElem?_cons_succ, Option.bind_some, Act.put, List.setIfInBounds_toArray, List.set_cons_zero, List.set_cons_succ] at hK ⊢
            rw [d3] at hK ⊢
            go_simp
            exact hK (undef) _ HJ.out rfl (fun j y h => h) _ rfl
          · obtain rfl := Option.some.inj ho.symm
            have d3 : V 3 = .bool true := hdep ⟨3, .data⟩ (by simp) rfl
            clear hdep ho hJ
            try simp only [fill, slotOf, List.size_toArray, List.length_cons, List.length_nil, Nat.reduceAdd, List.getElem?_toArray, List.getElem?_cons_zero, List.getElem?_cons_succ, Option.bind_some, Act.put, List.setIfInBounds_toArray, List.set_cons_zero, List.set_cons_succ] at hK ⊢
            rw [d3] at hK ⊢
            go_simp
            exact hK (.bool true) _ HJ.out rfl (fun j y h => h) _ rfl
        · intro V w9 hJ hall
          have dL : V 17 = .bool true := hall 17 (by decide)
          have HJ9 := Lib.hid hJ
          clear hall hJ
          simp only [fill, slotOf, List.size_toArray, List.length_cons, List.length_nil, Nat.reduceAdd, List.getElem?_toArray, List.getElem?_cons_zero, List.getElem?_cons_succ, Option.bind_some, Act.put, List.setIfInBounds_toArray, List.set_cons_zero, List.set_cons_succ]
          rw [dL]
          clear dL
          have HBZ := Lib.hid (HAL.out.trans (HJ9.out.mono HAL.out.size))
          go_wp2_with fail
          go_ret
          exact ⟨HNO.out, HBZ.out⟩
      | true =>
        by_cases hk0 : k = 0
        · subst hk0
          have HOK2 := Lib.hid (HOK.out.succ (by rw [← HSE.out, ← HBX.out]) (fun g => absurd g (Nat.lt_irrefl 0)))
          clear hbx
          refine wp_region_fill (by kernel_rfl) (by kernel_rfl) (by kernel_rfl) (Below (wr.alloc (.cells #[.int .i64 x0, .int .i64 x1] 43)).heap.size (wr.alloc (.cells #[.int .i64 x0, .int .i64 x1] 43))) (FV (fun j_9 => match j_9 with | 0 => some (.agg #[.int .i64 x0, .int .i64 x1]) | 1 => some (.bool true) | 2 => some (.bool false) | 3 => some (.bool false) | 4 => some (.int .i64 0) | 5 => some (.bool false) | 6 => some (.bool false) | 7 => some (undef) | 8 => some (undef) | 9 => some (undef) | 10 => some (undef) | 11 => some (undef) | 12 => some (undef) | 13 => some (undef) | 14 => some (undef) | 15 => some (undef) | 16 => some (.bool false) | 17 => some (.bool false) | _ => none) (fun _ _ => True)) (Below.refl _ _).drew ?_ ?_
          · intro i9 o ho V w9 K hJ hdep hK
            have HJ := Lib.hid hJ
            simp only [fill, slotOf, List.size_toArray, List.length_cons, List.length_nil, Nat.reduceAdd, List.getElem?_toArray, List.getElem?_cons_zero, List.getElem?_cons_succ, Option.bind_some, Act.put, List.setIfInBounds_toArray, List.set_cons_zero, List.set_cons_succ] at hK ⊢
            have hin : i9 < 18 := (Array.getElem?_eq_some_iff.1 ho).1
            have hcs : i9 = 0 ∨ i9 = 1 ∨ i9 = 2 ∨ i9 = 3 ∨ i9 = 4 ∨ i9 = 5 ∨ i9 = 6 ∨ i9 = 7 ∨ i9 = 8 ∨ i9 = 9 ∨ i9 = 10 ∨ i9 = 11 ∨ i9 = 12 ∨ i9 = 13 ∨ i9 = 14 ∨ i9 = 15 ∨ i9 = 16 ∨ i9 = 17 := by omega
            clear hin
            rcases hcs with rfl | rfl | rfl | rfl | rfl | rfl | rfl | rfl | rfl | rfl | rfl | rfl | rfl | rfl | rfl | rfl | rfl | rfl
            · obtain rfl := Option.some.inj ho.symm
              have e0 : w9.cell? ⟨wr.heap.size, 0, none⟩ = some (.int .i64 x0) := (hJ.cell (p := ⟨wr.heap.size, 0, none⟩) HXL.out).trans (cell_blk' HXA.out rfl)
              have e1 : w9.cell? ⟨wr.heap.size, 1, none⟩ = some (.int .i64 x1) := (hJ.cell (p := ⟨wr.heap.size, 1, none⟩) HXL.out).trans (cell_blk' HXA.out rfl)
              clear hdep ho hJ
              try simp only [fill, slotOf, List.size_toArray, List.length_cons, List.length_nil, Nat.reduceAdd, List.getElem?_toArray, List.getElem?_cons_zero, List.getElem?_cons_succ, Option.bind_some, Act.put, List.setIfInBounds_toArray, List.set_cons_zero, List.set_cons_succ] at hK ⊢
              go_simp
              exact hK (.agg #[.int .i64 x0, .int .i64 x1]) _ HJ.out rfl (fun j y h => h) _ rfl
            · obtain rfl := Option.some.inj ho.symm
              have d0 : V 0 = .agg #[.int .i64 x0, .int .i64 x1] := hdep ⟨0, .data⟩ (by simp) rfl
              clear hdep ho hJ
              try simp only [fill, slotOf, List.size_toArray, List.length_cons, List.length_nil, Nat.reduceAdd, List.getElem?_toArray, List.getElem?_cons_zero, List.getElem?_cons_succ, Option.bind_some, Act.put, List.setIfInBounds_toArray, List.set_cons_zero, List.set_cons_succ] at hK ⊢
              rw [d0] at hK ⊢
              go_simp
              refine (HRX.out w9 HJ.out).mono ?_
              rintro e w8 ⟨rfl, hb8⟩
              exact hK (.bool true) _ (HJ.out.trans (hb8.mono HJ.out.size)) rfl (FV.mono ((fun _ _ _ => trivial) hb8)) _ rfl
            · obtain rfl := Option.some.inj ho.symm
              have d1 : V 1 = .bool true := hdep ⟨1, .data⟩ (by simp) rfl
              clear hdep ho hJ
              try simp only [fill, slotOf, List.size_toArray, List.length_cons, List.length_nil, Nat.reduceAdd, List.getElem?_toArray, List.getElem?_cons_zero, List.getElem?_cons_succ, Option.bind_some, Act.put, List.setIfInBounds_toArray, List.set_cons_zero, List.set_cons_succ] at hK ⊢
              rw [d1] at hK ⊢
              go_simp
              exact hK (.bool false) _ HJ.out rfl (fun j y h => h) _ rfl
            · obtain rfl := Option.some.inj ho.symm
              have d2 : V 2 = .bool false := hdep ⟨2, .data⟩ (by simp) rfl
              clear hdep ho hJ
              try simp only [fill, slotOf, List.size_toArray, List.length_cons, List.length_nil, Nat.reduceAdd, List.getElem?_toArray, List.getElem?_cons_zero, List.getElem?_cons_succ, Option.bind_some, Act.put, List.setIfInBounds_toArray, List.set_cons_zero, List.set_cons_succ] at hK ⊢
              rw [d2] at hK ⊢
              go_simp
              exact hK (.bool false) _ HJ.out rfl (fun j y h => h) _ rfl
            · obtain rfl := Option.some.inj ho.symm
              have d3 : V 3 = .bool false := hdep ⟨3, .guard⟩ (by simp) rfl
              clear hdep ho hJ
              try simp only [fill, slotOf, List.size_toArray, List.length_cons, List.length_nil, Nat.reduceAdd, List.getElem?_toArray, List.getElem?_cons_zero, List.getElem?_cons_succ, Option.bind_some, Act.put, List.setIfInBounds_toArray, List.set_cons_zero, List.set_cons_succ] at hK ⊢
              rw [d3] at hK ⊢
              go_simp
              exact hK (.int .i64 0) _ HJ.out rfl (fun j y h => h) _ rfl
            · obtain rfl := Option.some.inj ho.symm
              have d4 : V 4 = .int .i64 0 := hdep ⟨4, .data⟩ (by simp) rfl
              have d3 : V 3 = .bool false := hdep ⟨3, .guard⟩ (by simp) rfl
              clear hdep ho hJ
              try simp only [fill, slotOf, List.size_toArray, List.length_cons, List.length_nil, Nat.reduceAdd, List.getElem?_toArray, List.getElem?_cons_zero, List.getElem?_cons_succ, Option.bind_some, Act.put, List.setIfInBounds_toArray, List.set_cons_zero, List.set_cons_succ] at hK ⊢
              rw [d4, d3] at hK ⊢
              go_simp
              exact hK (.bool false) _ HJ.out rfl (fun j y h => h) _ rfl
            · obtain rfl := Option.some.inj ho.symm
              have d5 : V 5 = .bool false := hdep ⟨5, .data⟩ (by simp) rfl
              have d3 : V 3 = .bool false := hdep ⟨3, .guard⟩ (by simp) rfl
              clear hdep ho hJ
              try simp only [fill, slotOf, List.size_toArray, List.length_cons, List.length_nil, Nat.reduceAdd, List.getElem?_toArray, List.getElem?_cons_zero, List.getElem?_cons_succ, Option.bind_some, Act.put, List.setIfInBounds_toArray, List.set_cons_zero, List.set_cons_succ] at hK ⊢
              rw [d5, d3] at hK ⊢
              go_simp
              exact hK (.bool false) _ HJ.out rfl (fun j y h => h) _ rfl
            · obtain rfl := Option.some.inj ho.symm
              have d6 : V 6 = .bool false := hdep ⟨6, .guard⟩ (by simp) rfl
              clear hdep ho hJ
              try simp only [fill, slotOf, List.size_toArray, List.length_cons, List.length_nil, Nat.reduceAdd, List.getElem?_toArray, List.getElem?_cons_zero, List.getElem?_cons_succ, Option.bind_some, Act.put, List.setIfInBounds_toArray, List.set_cons_zero, List.set_cons_succ] at hK ⊢
              rw [d6] at hK ⊢
              go_simp
              exact hK (undef) _ HJ.out rfl (fun j y h => h) _ rfl
            · obtain rfl := Option.some.inj ho.symm
              have d6 : V 6 = .bool false := hdep ⟨6, .guard⟩ (by simp) rfl
              clear hdep ho hJ
              try simp only [fill, slotOf, List.size_toArray, List.length_cons, List.length_nil, Nat.reduceAdd, List.getElem?_toArray, List.getElem?_cons_zero, List.getElem?_cons_succ, Option.bind_some, Act.put, List.setIfInBounds_toArray, List.set_cons_zero, List.set_cons_succ] at hK ⊢
              rw [d6] at hK ⊢
              go_simp
              exact hK (undef) _ HJ.out rfl (fun j y h => h) _ rfl
            · obtain rfl := Option.some.inj ho.symm
              have d6 : V 6 = .bool false := hdep ⟨6, .guard⟩ (by simp) rfl
              clear hdep ho hJ
              try simp only [fill, slotOf, List.size_toArray, List.length_cons, List.length_nil, Nat.reduceAdd, List.getElem?_toArray, List.getElem?_cons_zero, List.getElem?_cons_succ, Option.bind_some, Act.put, List.setIfInBounds_toArray, List.set_cons_zero, List.set_cons_succ] at hK ⊢
              rw [d6] at hK ⊢
              go_simp
              exact hK (undef) _ HJ.out rfl (fun j y h => h) _ rfl
            · obtain rfl := Option.some.inj ho.symm
              have d6 : V 6 = .bool false := hdep ⟨6, .guard⟩ (by simp) rfl
              clear hdep ho hJ
              try simp only [fill, slotOf, List.size_toArray, List.length_cons, List.length_nil, Nat.reduceAdd, List.getElem?_toArray, List.getElem?_cons_zero, List.getElem?_cons_succ, Option.bind_some, Act.put, List.setIfInBounds_toArray, List.set_cons_zero, List.set_cons_succ] at hK ⊢
              rw [d6] at hK ⊢
              go_simp
              exact hK (undef) _ HJ.out rfl (fun j y h => h) _ rfl
            · obtain rfl := Option.some.inj ho.symm
              have d6 : V 6 = .bool false := hdep ⟨6, .guard⟩ (by simp) rfl
              clear hdep ho hJ
              try simp only [fill, slotOf, List.size_toArray, List.length_cons, List.length_nil, Nat.reduceAdd, List.getElem?_toArray, List.getElem?_cons_zero, List.getElem?_cons_succ, Option.bind_some, Act.put, List.setIfInBounds_toArray, List.set_cons_zero, List.set_cons_succ] at hK ⊢
              rw [d6] at hK ⊢
              go_simp
              exact hK (undef) _ HJ.out rfl (fun j y h => h) _ rfl
            · obtain rfl := Option.some.inj ho.symm
              have d6 : V 6 = .bool false := hdep ⟨6, .guard⟩ (by simp) rfl
              clear hdep ho hJ
              try simp only [fill, slotOf, List.size_toArray, List.length_cons, List.length_nil, Nat.reduceAdd, List.getElem?_toArray, List.getElem?_cons_zero, List.getElem?_cons_succ, Option.bind_some, Act.put, List.setIfInBounds_toArray, List.set_cons_zero, List.set_cons_succ] at hK ⊢
              rw [d6] at hK ⊢
              go_simp
              exact hK (undef) _ HJ.out rfl (fun j y h => h) _ rfl
            · obtain rfl := Option.some.inj ho.symm
              have d6 : V 6 = .bool false := hdep ⟨6, .guard⟩ (by simp) rfl
              clear hdep ho hJ
              try simp only [fill, slotOf, List.size_toArray, List.length_cons, List.length_nil, Nat.reduceAdd, List.getElem?_toArray, List.getElem?_cons_zero, List.getElem?_cons_succ, Option.bind_some, Act.put, List.setIfInBounds_toArray, List.set_cons_zero, List.set_cons_succ] at hK ⊢
              rw [d6] at hK ⊢
              go_simp
              exact hK (undef) _ HJ.out rfl (fun j y h => h) _ rfl
            · obtain rfl := Option.some.inj ho.symm
              have d6 : V 6 = .bool false := hdep ⟨6, .guard⟩ (by simp) rfl
              clear hdep ho hJ
              try simp only [fill, slotOf, List.size_toArray, List.length_cons, List.length_nil, Nat.reduceAdd, List.getElem?_toArray, List.getElem?_cons_zero, List.getElem?_cons_succ, Option.bind_some, Act.put, List.setIfInBounds_toArray, List.set_cons_zero, List.set_cons_succ] at hK ⊢
              rw [d6] at hK ⊢
              go_simp
              exact hK (undef) _ HJ.out rfl (fun j y h => h) _ rfl
            · obtain rfl := Option.some.inj ho.symm
              have d6 : V 6 = .bool false := hdep ⟨6, .guard⟩ (by simp) rfl
              clear hdep ho hJ
              try simp only [fill, slotOf, List.size_toArray, List.length_cons, List.length_nil, Nat.reduceAdd, List.getElem?_toArray, List.getElem?_cons_zero, List.getElem?_cons_succ, Option.bind_some, Act.put, List.setIfInBounds_toArray, List.set_cons_zero, List.set_cons_succ] at hK ⊢
              rw [d6] at hK ⊢
              go_simp
              exact hK (undef) _ HJ.out rfl (fun j y h => h) _ rfl
            · obtain rfl := Option.some.inj ho.symm
              have d6 : V 6 = .bool false := hdep ⟨6, .data⟩ (by simp) rfl
              have d3 : V 3 = .bool false := hdep ⟨3, .guard⟩ (by simp) rfl
              clear hdep ho hJ
              try simp only [fill, slotOf, List.size_toArray, List.length_cons, List.length_nil, Nat.reduceAdd, List.getElem?_toArray, List.getElem?_cons_zero, List.getElem?_cons_succ, Option.bind_some, Act.put, List.setIfInBounds_toArray, List.set_cons_zero, List.set_cons_succ] at hK ⊢
              rw [d6, d3] at hK ⊢
              go_simp
              exact hK (.bool false) _ HJ.out rfl (fun j y h => h) _ rfl
            · obtain rfl := Option.some.inj ho.symm
              have d3 : V 3 = .bool false := hdep ⟨3, .data⟩ (by simp) rfl
              have d16 : V 16 = .bool false := hdep ⟨16, .data⟩ (by simp) rfl
              clear hdep ho hJ
              try simp only [fill, slotOf, List.size_toArray, List.length_cons, List.length_nil, Nat.reduceAdd, List.getElem?_toArray, List.getElem?_cons_zero, List.getElem?_cons_succ, Option.bind_some, Act.put, List.setIfInBounds_toArray, List.set_cons_zero, List.set_cons_succ] at hK ⊢
              rw [d3, d16] at hK ⊢
              go_simp
              exact hK (.bool false) _ HJ.out rfl (fun j y h => h) _ rfl
          · intro V w9 hJ hall
            have dL : V 17 = .bool false := hall 17 (by decide)
            have HJ9 := Lib.hid hJ
            clear hall hJ
            simp only [fill, slotOf, List.size_toArray, List.length_cons, List.length_nil, Nat.reduceAdd, List.getElem?_toArray, List.getElem?_cons_zero, List.getElem?_cons_succ, Option.bind_some, Act.put, List.setIfInBounds_toArray, List.set_cons_zero, List.set_cons_succ]
            rw [dL]
            clear dL
            have HBZ := Lib.hid (HAL.out.trans (HJ9.out.mono HAL.out.size))
            go_wp2_with fail
            go_roundw
            case rel => exact ⟨1, by omega, rfl, HOK2, HBZ⟩
            case measure => simp [intOf]; try omega
        · obtain ⟨j, rfl⟩ : ∃ j, k = j + 1 := ⟨k - 1, by omega⟩
          have HSYJ := Lib.hid HSY.out
          simp only [Nat.add_sub_cancel] at HSYJ
          clear HSY
          have HSY := HSYJ
          clear HSYJ
          by_cases hge : y0 ≥ x0
          · have HZ := Lib.hid (show decide (y0 ≥ x0) = true from decide_eq_true hge)
            have HNO := Lib.hid (RisIs.no (p := markB) (cm := fun a b => a.1 - b.1) (d := MarkS.z) (l := l) hkn (fun g => by have h1 := g.2 (by omega); rw [← HSE.out, ← HRE.out] at h1; have h2 : y0 - x0 < 0 := h1; omega))
            clear hbx hge
            refine wp_region_fill (by kernel_rfl) (by kernel_rfl) (by kernel_rfl) (Below (wr.alloc (.cells #[.int .i64 x0, .int .i64 x1] 43)).heap.size (wr.alloc (.cells #[.int .i64 x0, .int .i64 x1] 43))) (FV (fun j_9 => match j_9 with | 0 => some (.agg #[.int .i64 x0, .int .i64 x1]) | 1 => some (.bool true) | 2 => some (.bool false) | 3 => some (.bool false) | 4 => some (.int .i64 ((j : Int) + 1)) | 5 => some (.bool true) | 6 => some (.bool true) | 7 => some (.slice (some ⟨sb, so, none⟩) n c) | 8 => some (.int .i64 ((j : Int) + 1)) | 9 => some (.int .i64 (j : Int)) | 10 => some (.pointer (some ⟨sb, so + j * 2, none⟩)) | 11 => some (.pointer (some ⟨sb, so + j * 2, none⟩)) | 12 => some (.int .i64 y0) | 13 => some (.pointer (some ⟨wr.heap.size, 0, none⟩)) | 14 => some (.int .i64 x0) | 15 => some (.bool true) | 16 => some (.bool true) | 17 => some (.bool true) | _ => none) (fun _ _ => True)) (Below.refl _ _).drew ?_ ?_
            · intro i9 o ho V w9 K hJ hdep hK
              have HJ := Lib.hid hJ
              simp only [fill, slotOf, List.size_toArray, List.length_cons, List.length_nil, Nat.reduceAdd, List.getElem?_toArray, List.getElem?_cons_zero, List.getElem?_cons_succ, Option.bind_some, Act.put, List.setIfInBounds_toArray, List.set_cons_zero, List.set_cons_succ] at hK ⊢
              have hin : i9 < 18 := (Array.getElem?_eq_some_iff.1 ho).1
              have hcs : i9 = 0 ∨ i9 = 1 ∨ i9 = 2 ∨ i9 = 3 ∨ i9 = 4 ∨ i9 = 5 ∨ i9 = 6 ∨ i9 = 7 ∨ i9 = 8 ∨ i9 = 9 ∨ i9 = 10 ∨ i9 = 11 ∨ i9 = 12 ∨ i9 = 13 ∨ i9 = 14 ∨ i9 = 15 ∨ i9 = 16 ∨ i9 = 17 := by omega
              clear hin
              rcases hcs with rfl | rfl | rfl | rfl | rfl | rfl | rfl | rfl | rfl | rfl | rfl | rfl | rfl | rfl | rfl | rfl | rfl | rfl
              · obtain rfl := Option.some.inj ho.symm
                have e0 : w9.cell? ⟨wr.heap.size, 0, none⟩ = some (.int .i64 x0) := (hJ.cell (p := ⟨wr.heap.size, 0, none⟩) HXL.out).trans (cell_blk' HXA.out rfl)
                have e1 : w9.cell? ⟨wr.heap.size, 1, none⟩ = some (.int .i64 x1) := (hJ.cell (p := ⟨wr.heap.size, 1, none⟩) HXL.out).trans (cell_blk' HXA.out rfl)
                clear hdep ho hJ
                try simp only [fill, slotOf, List.size_toArray, List.length_cons, List.length_nil, Nat.reduceAdd, List.getElem?_toArray, List.getElem?_cons_zero, List.getElem?_cons_succ, Option.bind_some, Act.put, List.setIfInBounds_toArray, List.set_cons_zero, List.set_cons_succ] at hK ⊢
                go_simp
                exact hK (.agg #[.int .i64 x0, .int .i64 x1]) _ HJ.out rfl (fun j y h => h) _ rfl
              · obtain rfl := Option.some.inj ho.symm
                have d0 : V 0 = .agg #[.int .i64 x0, .int .i64 x1] := hdep ⟨0, .data⟩ (by simp) rfl
                clear hdep ho hJ
                try simp only [fill, slotOf, List.size_toArray, List.length_cons, List.length_nil, Nat.reduceAdd, List.getElem?_toArray, List.getElem?_cons_zero, List.getElem?_cons_succ, Option.bind_some, Act.put, List.setIfInBounds_toArray, List.set_cons_zero, List.set_cons_succ] at hK ⊢
                rw [d0] at hK ⊢
                go_simp
                refine (HRX.out w9 HJ.out).mono ?_
                rintro e w8 ⟨rfl, hb8⟩
                exact hK (.bool true) _ (HJ.out.trans (hb8.mono HJ.out.size)) rfl (FV.mono ((fun _ _ _ => trivial) hb8)) _ rfl
              · obtain rfl := Option.some.inj ho.symm
                have d1 : V 1 = .bool true := hdep ⟨1, .data⟩ (by simp) rfl
                clear hdep ho hJ
                try simp only [fill, slotOf, List.size_toArray, List.length_cons, List.length_nil, Nat.reduceAdd, List.getElem?_toArray, List.getElem?_cons_zero, List.getElem?_cons_succ, Option.bind_some, Act.put, List.setIfInBounds_toArray, List.set_cons_zero, List.set_cons_succ] at hK ⊢
                rw [d1] at hK ⊢
                go_simp
                exact hK (.bool false) _ HJ.out rfl (fun j y h => h) _ rfl
              · obtain rfl := Option.some.inj ho.symm
                have d2 : V 2 = .bool false := hdep ⟨2, .data⟩ (by simp) rfl
                clear hdep ho hJ
                try simp only [fill, slotOf, List.size_toArray, List.length_cons, List.length_nil, Nat.reduceAdd, List.getElem?_toArray, List.getElem?_cons_zero, List.getElem?_cons_succ, Option.bind_some, Act.put, List.setIfInBounds_toArray, List.set_cons_zero, List.set_cons_succ] at hK ⊢
                rw [d2] at hK ⊢
                go_simp
                exact hK (.bool false) _ HJ.out rfl (fun j y h => h) _ rfl
              · obtain rfl := Option.some.inj ho.symm
                have d3 : V 3 = .bool false := hdep ⟨3, .guard⟩ (by simp) rfl
                clear hdep ho hJ
                try simp only [fill, slotOf, List.size_toArray, List.length_cons, List.length_nil, Nat.reduceAdd, List.getElem?_toArray, List.getElem?_cons_zero, List.getElem?_cons_succ, Option.bind_some, Act.put, List.setIfInBounds_toArray, List.set_cons_zero, List.set_cons_succ] at hK ⊢
                rw [d3] at hK ⊢
                go_simp
                exact hK (.int .i64 ((j : Int) + 1)) _ HJ.out rfl (fun j y h => h) _ rfl
              · obtain rfl := Option.some.inj ho.symm
                have d4 : V 4 = .int .i64 ((j : Int) + 1) := hdep ⟨4, .data⟩ (by simp) rfl
                have d3 : V 3 = .bool false := hdep ⟨3, .guard⟩ (by simp) rfl
                have hk9 : decide ((j : Int) + 1 > 0) = true := decide_eq_true (by omega)
                clear hdep ho hJ
                try simp only [fill, slotOf, List.size_toArray, List.length_cons, List.length_nil, Nat.reduceAdd, List.getElem?_toArray, List.getElem?_cons_zero, List.getElem?_cons_succ, Option.bind_some, Act.put, List.setIfInBounds_toArray, List.set_cons_zero, List.set_cons_succ] at hK ⊢
                rw [d4, d3] at hK ⊢
                go_simp
                exact hK (.bool true) _ HJ.out rfl (fun j y h => h) _ rfl
              · obtain rfl := Option.some.inj ho.symm
                have d5 : V 5 = .bool true := hdep ⟨5, .data⟩ (by simp) rfl
                have d3 : V 3 = .bool false := hdep ⟨3, .guard⟩ (by simp) rfl
                clear hdep ho hJ
                try simp only [fill, slotOf, List.size_toArray, List.length_cons, List.length_nil, Nat.reduceAdd, List.getElem?_toArray, List.getElem?_cons_zero, List.getElem?_cons_succ, Option.bind_some, Act.put, List.setIfInBounds_toArray, List.set_cons_zero, List.set_cons_succ] at hK ⊢
                rw [d5, d3] at hK ⊢
                go_simp
                exact hK (.bool true) _ HJ.out rfl (fun j y h => h) _ rfl
              · obtain rfl := Option.some.inj ho.symm
                have d6 : V 6 = .bool true := hdep ⟨6, .guard⟩ (by simp) rfl
                clear hdep ho hJ
                try simp only [fill, slotOf, List.size_toArray, List.length_cons, List.length_nil, Nat.reduceAdd, List.getElem?_toArray, List.getElem?_cons_zero, List.getElem?_cons_succ, Option.bind_some, Act.put, List.setIfInBounds_toArray, List.set_cons_zero, List.set_cons_succ] at hK ⊢
                rw [d6] at hK ⊢
                go_simp
                exact hK (.slice (some ⟨sb, so, none⟩) n c) _ HJ.out rfl (fun j y h => h) _ rfl
              · obtain rfl := Option.some.inj ho.symm
                have d6 : V 6 = .bool true := hdep ⟨6, .guard⟩ (by simp) rfl
                clear hdep ho hJ
                try simp only [fill, slotOf, List.size_toArray, List.length_cons, List.length_nil, Nat.reduceAdd, List.getElem?_toArray, List.getElem?_cons_zero, List.getElem?_cons_succ, Option.bind_some, Act.put, List.setIfInBounds_toArray, List.set_cons_zero, List.set_cons_succ] at hK ⊢
                rw [d6] at hK ⊢
                go_simp
                exact hK (.int .i64 ((j : Int) + 1)) _ HJ.out rfl (fun j y h => h) _ rfl
              · obtain rfl := Option.some.inj ho.symm
                have d8 : V 8 = .int .i64 ((j : Int) + 1) := hdep ⟨8, .data⟩ (by simp) rfl
                have d6 : V 6 = .bool true := hdep ⟨6, .guard⟩ (by simp) rfl
                have hw1 : IntKind.i64.wrap (j : Int) = (j : Int) := IntWalk.i64_in _ (by omega)
                have hw2 : IntKind.i64.wrap ((j : Int) + 1 - 1) = (j : Int) := by rw [Int.add_sub_cancel]; exact hw1
                clear hdep ho hJ
                try simp only [fill, slotOf, List.size_toArray, List.length_cons, List.length_nil, Nat.reduceAdd, List.getElem?_toArray, List.getElem?_cons_zero, List.getElem?_cons_succ, Option.bind_some, Act.put, List.setIfInBounds_toArray, List.set_cons_zero, List.set_cons_succ] at hK ⊢
                rw [d8, d6] at hK ⊢
                go_simp
                exact hK (.int .i64 (j : Int)) _ HJ.out rfl (fun j y h => h) _ rfl
              · obtain rfl := Option.some.inj ho.symm
                have d7 : V 7 = .slice (some ⟨sb, so, none⟩) n c := hdep ⟨7, .data⟩ (by simp) rfl
                have d9 : V 9 = .int .i64 (j : Int) := hdep ⟨9, .data⟩ (by simp) rfl
                have d6 : V 6 = .bool true := hdep ⟨6, .guard⟩ (by simp) rfl
                have hjn : j < n := by omega
                have hjn2 : (j : Int) < (n : Int) := by omega
                clear hdep ho hJ
                try simp only [fill, slotOf, List.size_toArray, List.length_cons, List.length_nil, Nat.reduceAdd, List.getElem?_toArray, List.getElem?_cons_zero, List.getElem?_cons_succ, Option.bind_some, Act.put, List.setIfInBounds_toArray, List.set_cons_zero, List.set_cons_succ] at hK ⊢
                rw [d7, d9, d6] at hK ⊢
                go_simp
                exact hK (.pointer (some ⟨sb, so + j * 2, none⟩)) _ HJ.out rfl (fun j y h => h) _ rfl
              · obtain rfl := Option.some.inj ho.symm
                have d10 : V 10 = .pointer (some ⟨sb, so + j * 2, none⟩) := hdep ⟨10, .data⟩ (by simp) rfl
                have d6 : V 6 = .bool true := hdep ⟨6, .guard⟩ (by simp) rfl
                clear hdep ho hJ
                try simp only [fill, slotOf, List.size_toArray, List.length_cons, List.length_nil, Nat.reduceAdd, List.getElem?_toArray, List.getElem?_cons_zero, List.getElem?_cons_succ, Option.bind_some, Act.put, List.setIfInBounds_toArray, List.set_cons_zero, List.set_cons_succ] at hK ⊢
                rw [d10, d6] at hK ⊢
                go_simp
                exact hK (.pointer (some ⟨sb, so + j * 2, none⟩)) _ HJ.out rfl (fun j y h => h) _ rfl
              · obtain rfl := Option.some.inj ho.symm
                have d11 : V 11 = .pointer (some ⟨sb, so + j * 2, none⟩) := hdep ⟨11, .data⟩ (by simp) rfl
                have d6 : V 6 = .bool true := hdep ⟨6, .guard⟩ (by simp) rfl
                have u0 : w9.cell? ⟨sb, so + j * 2, none⟩ = some (.int .i64 y0) := (hJ.cell (p := ⟨sb, so + j * 2 + 0, none⟩) HSL.out).trans (HSY.out 0 _ rfl)
                clear hdep ho hJ
                try simp only [fill, slotOf, List.size_toArray, List.length_cons, List.length_nil, Nat.reduceAdd, List.getElem?_toArray, List.getElem?_cons_zero, List.getElem?_cons_succ, Option.bind_some, Act.put, List.setIfInBounds_toArray, List.set_cons_zero, List.set_cons_succ] at hK ⊢
                rw [d11, d6] at hK ⊢
                go_simp
                exact hK (.int .i64 y0) _ HJ.out rfl (fun j y h => h) _ rfl
              · obtain rfl := Option.some.inj ho.symm
                have d6 : V 6 = .bool true := hdep ⟨6, .guard⟩ (by simp) rfl
                clear hdep ho hJ
                try simp only [fill, slotOf, List.size_toArray, List.length_cons, List.length_nil, Nat.reduceAdd, List.getElem?_toArray, List.getElem?_cons_zero, List.getElem?_cons_succ, Option.bind_some, Act.put, List.setIfInBounds_toArray, List.set_cons_zero, List.set_cons_succ] at hK ⊢
                rw [d6] at hK ⊢
                go_simp
                exact hK (.pointer (some ⟨wr.heap.size, 0, none⟩)) _ HJ.out rfl (fun j y h => h) _ rfl
              · obtain rfl := Option.some.inj ho.symm
                have d13 : V 13 = .pointer (some ⟨wr.heap.size, 0, none⟩) := hdep ⟨13, .data⟩ (by simp) rfl
                have d6 : V 6 = .bool true := hdep ⟨6, .guard⟩ (by simp) rfl
                have e0 : w9.cell? ⟨wr.heap.size, 0, none⟩ = some (.int .i64 x0) := (hJ.cell (p := ⟨wr.heap.size, 0, none⟩) HXL.out).trans (cell_blk' HXA.out rfl)
                clear hdep ho hJ
                try simp only [fill, slotOf, List.size_toArray, List.length_cons, List.length_nil, Nat.reduceAdd, List.getElem?_toArray, List.getElem?_cons_zero, List.getElem?_cons_succ, Option.bind_some, Act.put, List.setIfInBounds_toArray, List.set_cons_zero, List.set_cons_succ] at hK ⊢
                rw [d13, d6] at hK ⊢
                go_simp
                exact hK (.int .i64 x0) _ HJ.out rfl (fun j y h => h) _ rfl
              · obtain rfl := Option.some.inj ho.symm
                have d12 : V 12 = .int .i64 y0 := hdep ⟨12, .data⟩ (by simp) rfl
                have d14 : V 14 = .int .i64 x0 := hdep ⟨14, .data⟩ (by simp) rfl
                have d6 : V 6 = .bool true := hdep ⟨6, .guard⟩ (by simp) rfl
                have hz9 : decide (y0 ≥ x0) = true := HZ.out
                clear hdep ho hJ
                try simp only [fill, slotOf, List.size_toArray, List.length_cons, List.length_nil, Nat.reduceAdd, List.getElem?_toArray, List.getElem?_cons_zero, List.getElem?_cons_succ, Option.bind_some, Act.put, List.setIfInBounds_toArray, List.set_cons_zero, List.set_cons_succ] at hK ⊢
                rw [d12, d14, d6] at hK ⊢
                go_simp
                exact hK (.bool true) _ HJ.out rfl (fun j y h => h) _ rfl
              · obtain rfl := Option.some.inj ho.symm
                have d6 : V 6 = .bool true := hdep ⟨6, .data⟩ (by simp) rfl
                have d15 : V 15 = .bool true := hdep ⟨15, .data⟩ (by simp) rfl
                have d3 : V 3 = .bool false := hdep ⟨3, .guard⟩ (by simp) rfl
                clear hdep ho hJ
                try simp only [fill, slotOf, List.size_toArray, List.length_cons, List.length_nil, Nat.reduceAdd, List.getElem?_toArray, List.getElem?_cons_zero, List.getElem?_cons_succ, Option.bind_some, Act.put, List.setIfInBounds_toArray, List.set_cons_zero, List.set_cons_succ] at hK ⊢
                rw [d6, d15, d3] at hK ⊢
                go_simp
                exact hK (.bool true) _ HJ.out rfl (fun j y h => h) _ rfl
              · obtain rfl := Option.some.inj ho.symm
                have d3 : V 3 = .bool false := hdep ⟨3, .data⟩ (by simp) rfl
                have d16 : V 16 = .bool true := hdep ⟨16, .data⟩ (by simp) rfl
                clear hdep ho hJ
                try simp only [fill, slotOf, List.size_toArray, List.length_cons, List.length_nil, Nat.reduceAdd, List.getElem?_toArray, List.getElem?_cons_zero, List.getElem?_cons_succ, Option.bind_some, Act.put, List.setIfInBounds_toArray, List.set_cons_zero, List.set_cons_succ] at hK ⊢
                rw [d3, d16] at hK ⊢
                go_simp
                exact hK (.bool true) _ HJ.out rfl (fun j y h => h) _ rfl
            · intro V w9 hJ hall
              have dL : V 17 = .bool true := hall 17 (by decide)
              have HJ9 := Lib.hid hJ
              clear hall hJ
              simp only [fill, slotOf, List.size_toArray, List.length_cons, List.length_nil, Nat.reduceAdd, List.getElem?_toArray, List.getElem?_cons_zero, List.getElem?_cons_succ, Option.bind_some, Act.put, List.setIfInBounds_toArray, List.set_cons_zero, List.set_cons_succ]
              rw [dL]
              clear dL
              have HBZ := Lib.hid (HAL.out.trans (HJ9.out.mono HAL.out.size))
              go_wp2_with fail
              go_ret
              exact ⟨HNO.out, HBZ.out⟩
          · have HZ := Lib.hid (show decide (y0 ≥ x0) = false from decide_eq_false hge)
            have HOK2 := Lib.hid (HOK.out.succ (by rw [← HSE.out, ← HBX.out]) (fun _ => by rw [← HSE.out, ← HRE.out]; show y0 - x0 < 0; omega))
            clear hbx hge
            refine wp_region_fill (by kernel_rfl) (by kernel_rfl) (by kernel_rfl) (Below (wr.alloc (.cells #[.int .i64 x0, .int .i64 x1] 43)).heap.size (wr.alloc (.cells #[.int .i64 x0, .int .i64 x1] 43))) (FV (fun j_9 => match j_9 with | 0 => some (.agg #[.int .i64 x0, .int .i64 x1]) | 1 => some (.bool true) | 2 => some (.bool false) | 3 => some (.bool false) | 4 => some (.int .i64 ((j : Int) + 1)) | 5 => some (.bool true) | 6 => some (.bool true) | 7 => some (.slice (some ⟨sb, so, none⟩) n c) | 8 => some (.int .i64 ((j : Int) + 1)) | 9 => some (.int .i64 (j : Int)) | 10 => some (.pointer (some ⟨sb, so + j * 2, none⟩)) | 11 => some (.pointer (some ⟨sb, so + j * 2, none⟩)) | 12 => some (.int .i64 y0) | 13 => some (.pointer (some ⟨wr.heap.size, 0, none⟩)) | 14 => some (.int .i64 x0) | 15 => some (.bool false) | 16 => some (.bool false) | 17 => some (.bool false) | _ => none) (fun _ _ => True)) (Below.refl _ _).drew ?_ ?_
            · intro i9 o ho V w9 K hJ hdep hK
              have HJ := Lib.hid hJ
              simp only [fill, slotOf, List.size_toArray, List.length_cons, List.length_nil, Nat.reduceAdd, List.getElem?_toArray, List.getElem?_cons_zero, List.getElem?_cons_succ, Option.bind_some, Act.put, List.setIfInBounds_toArray, List.set_cons_zero, List.set_cons_succ] at hK ⊢
              have hin : i9 < 18 := (Array.getElem?_eq_some_iff.1 ho).1
              have hcs : i9 = 0 ∨ i9 = 1 ∨ i9 = 2 ∨ i9 = 3 ∨ i9 = 4 ∨ i9 = 5 ∨ i9 = 6 ∨ i9 = 7 ∨ i9 = 8 ∨ i9 = 9 ∨ i9 = 10 ∨ i9 = 11 ∨ i9 = 12 ∨ i9 = 13 ∨ i9 = 14 ∨ i9 = 15 ∨ i9 = 16 ∨ i9 = 17 := by omega
              clear hin
              rcases hcs with rfl | rfl | rfl | rfl | rfl | rfl | rfl | rfl | rfl | rfl | rfl | rfl | rfl | rfl | rfl | rfl | rfl | rfl
              · obtain rfl := Option.some.inj ho.symm
                have e0 : w9.cell? ⟨wr.heap.size, 0, none⟩ = some (.int .i64 x0) := (hJ.cell (p := ⟨wr.heap.size, 0, none⟩) HXL.out).trans (cell_blk' HXA.out rfl)
                have e1 : w9.cell? ⟨wr.heap.size, 1, none⟩ = some (.int .i64 x1) := (hJ.cell (p := ⟨wr.heap.size, 1, none⟩) HXL.out).trans (cell_blk' HXA.out rfl)
                clear hdep ho hJ
                try simp only [fill, slotOf, List.size_toArray, List.length_cons, List.length_nil, Nat.reduceAdd, List.getElem?_toArray, List.getElem?_cons_zero, List.getElem?_cons_succ, Option.bind_some, Act.put, List.setIfInBounds_toArray, List.set_cons_zero, List.set_cons_succ] at hK ⊢
                go_simp
                exact hK (.agg #[.int .i64 x0, .int .i64 x1]) _ HJ.out rfl (fun j y h => h) _ rfl
              · obtain rfl := Option.some.inj ho.symm
                have d0 : V 0 = .agg #[.int .i64 x0, .int .i64 x1] := hdep ⟨0, .data⟩ (by simp) rfl
                clear hdep ho hJ
                try simp only [fill, slotOf, List.size_toArray, List.length_cons, List.length_nil, Nat.reduceAdd, List.getElem?_toArray, List.getElem?_cons_zero, List.getElem?_cons_succ, Option.bind_some, Act.put, List.setIfInBounds_toArray, List.set_cons_zero, List.set_cons_succ] at hK ⊢
                rw [d0] at hK ⊢
                go_simp
                refine (HRX.out w9 HJ.out).mono ?_
                rintro e w8 ⟨rfl, hb8⟩
                exact hK (.bool true) _ (HJ.out.trans (hb8.mono HJ.out.size)) rfl (FV.mono ((fun _ _ _ => trivial) hb8)) _ rfl
              · obtain rfl := Option.some.inj ho.symm
                have d1 : V 1 = .bool true := hdep ⟨1, .data⟩ (by simp) rfl
                clear hdep ho hJ
                try simp only [fill, slotOf, List.size_toArray, List.length_cons, List.length_nil, Nat.reduceAdd, List.getElem?_toArray, List.getElem?_cons_zero, List.getElem?_cons_succ, Option.bind_some, Act.put, List.setIfInBounds_toArray, List.set_cons_zero, List.set_cons_succ] at hK ⊢
                rw [d1] at hK ⊢
                go_simp
                exact hK (.bool false) _ HJ.out rfl (fun j y h => h) _ rfl
              · obtain rfl := Option.some.inj ho.symm
                have d2 : V 2 = .bool false := hdep ⟨2, .data⟩ (by simp) rfl
                clear hdep ho hJ
                try simp only [fill, slotOf, List.size_toArray, List.length_cons, List.length_nil, Nat.reduceAdd, List.getElem?_toArray, List.getElem?_cons_zero, List.getElem?_cons_succ, Option.bind_some, Act.put, List.setIfInBounds_toArray, List.set_cons_zero, List.set_cons_succ] at hK ⊢
                rw [d2] at hK ⊢
                go_simp
                exact hK (.bool false) _ HJ.out rfl (fun j y h => h) _ rfl
              · obtain rfl := Option.some.inj ho.symm
                have d3 : V 3 = .bool false := hdep ⟨3, .guard⟩ (by simp) rfl
                clear hdep ho hJ
                try simp only [fill, slotOf, List.size_toArray, List.length_cons, List.length_nil, Nat.reduceAdd, List.getElem?_toArray, List.getElem?_cons_zero, List.getElem?_cons_succ, Option.bind_some, Act.put, List.setIfInBounds_toArray, List.set_cons_zero, List.set_cons_succ] at hK ⊢
                rw [d3] at hK ⊢
                go_simp
                exact hK (.int .i64 ((j : Int) + 1)) _ HJ.out rfl (fun j y h => h) _ rfl
              · obtain rfl := Option.some.inj ho.symm
                have d4 : V 4 = .int .i64 ((j : Int) + 1) := hdep ⟨4, .data⟩ (by simp) rfl
                have d3 : V 3 = .bool false := hdep ⟨3, .guard⟩ (by simp) rfl
                have hk9 : decide ((j : Int) + 1 > 0) = true := decide_eq_true (by omega)
                clear hdep ho hJ
                try simp only [fill, slotOf, List.size_toArray, List.length_cons, List.length_nil, Nat.reduceAdd, List.getElem?_toArray, List.getElem?_cons_zero, List.getElem?_cons_succ, Option.bind_some, Act.put, List.setIfInBounds_toArray, List.set_cons_zero, List.set_cons_succ] at hK ⊢
                rw [d4, d3] at hK ⊢
                go_simp
                exact hK (.bool true) _ HJ.out rfl (fun j y h => h) _ rfl
              · obtain rfl := Option.some.inj ho.symm
                have d5 : V 5 = .bool true := hdep ⟨5, .data⟩ (by simp) rfl
                have d3 : V 3 = .bool false := hdep ⟨3, .guard⟩ (by simp) rfl
                clear hdep ho hJ
                try simp only [fill, slotOf, List.size_toArray, List.length_cons, List.length_nil, Nat.reduceAdd, List.getElem?_toArray, List.getElem?_cons_zero, List.getElem?_cons_succ, Option.bind_some, Act.put, List.setIfInBounds_toArray, List.set_cons_zero, List.set_cons_succ] at hK ⊢
                rw [d5, d3] at hK ⊢
                go_simp
                exact hK (.bool true) _ HJ.out rfl (fun j y h => h) _ rfl
              · obtain rfl := Option.some.inj ho.symm
                have d6 : V 6 = .bool true := hdep ⟨6, .guard⟩ (by simp) rfl
                clear hdep ho hJ
                try simp only [fill, slotOf, List.size_toArray, List.length_cons, List.length_nil, Nat.reduceAdd, List.getElem?_toArray, List.getElem?_cons_zero, List.getElem?_cons_succ, Option.bind_some, Act.put, List.setIfInBounds_toArray, List.set_cons_zero, List.set_cons_succ] at hK ⊢
                rw [d6] at hK ⊢
                go_simp
                exact hK (.slice (some ⟨sb, so, none⟩) n c) _ HJ.out rfl (fun j y h => h) _ rfl
              · obtain rfl := Option.some.inj ho.symm
                have d6 : V 6 = .bool true := hdep ⟨6, .guard⟩ (by simp) rfl
                clear hdep ho hJ
                try simp only [fill, slotOf, List.size_toArray, List.length_cons, List.length_nil, Nat.reduceAdd, List.getElem?_toArray, List.getElem?_cons_zero, List.getElem?_cons_succ, Option.bind_some, Act.put, List.setIfInBounds_toArray, List.set_cons_zero, List.set_cons_succ] at hK ⊢
                rw [d6] at hK ⊢
                go_simp
                exact hK (.int .i64 ((j : Int) + 1)) _ HJ.out rfl (fun j y h => h) _ rfl
              · obtain rfl := Option.some.inj ho.symm
                have d8 : V 8 = .int .i64 ((j : Int) + 1) := hdep ⟨8, .data⟩ (by simp) rfl
                have d6 : V 6 = .bool true := hdep ⟨6, .guard⟩ (by simp) rfl
                have hw1 : IntKind.i64.wrap (j : Int) = (j : Int) := IntWalk.i64_in _ (by omega)
                have hw2 : IntKind.i64.wrap ((j : Int) + 1 - 1) = (j : Int) := by rw [Int.add_sub_cancel]; exact hw1
                clear hdep ho hJ
                try simp only [fill, slotOf, List.size_toArray, List.length_cons, List.length_nil, Nat.reduceAdd, List.getElem?_toArray, List.getElem?_cons_zero, List.getElem?_cons_succ, Option.bind_some, Act.put, List.setIfInBounds_toArray, List.set_cons_zero, List.set_cons_succ] at hK ⊢
                rw [d8, d6] at hK ⊢
                go_simp
                exact hK (.int .i64 (j : Int)) _ HJ.out rfl (fun j y h => h) _ rfl
              · obtain rfl := Option.some.inj ho.symm
                have d7 : V 7 = .slice (some ⟨sb, so, none⟩) n c := hdep ⟨7, .data⟩ (by simp) rfl
                have d9 : V 9 = .int .i64 (j : Int) := hdep ⟨9, .data⟩ (by simp) rfl
                have d6 : V 6 = .bool true := hdep ⟨6, .guard⟩ (by simp) rfl
                have hjn : j < n := by omega
                have hjn2 : (j : Int) < (n : Int) := by omega
                clear hdep ho hJ
                try simp only [fill, slotOf, List.size_toArray, List.length_cons, List.length_nil, Nat.reduceAdd, List.getElem?_toArray, List.getElem?_cons_zero, List.getElem?_cons_succ, Option.bind_some, Act.put, List.setIfInBounds_toArray, List.set_cons_zero, List.set_cons_succ] at hK ⊢
                rw [d7, d9, d6] at hK ⊢
                go_simp
                exact hK (.pointer (some ⟨sb, so + j * 2, none⟩)) _ HJ.out rfl (fun j y h => h) _ rfl
              · obtain rfl := Option.some.inj ho.symm
                have d10 : V 10 = .pointer (some ⟨sb, so + j * 2, none⟩) := hdep ⟨10, .data⟩ (by simp) rfl
                have d6 : V 6 = .bool true := hdep ⟨6, .guard⟩ (by simp) rfl
                clear hdep ho hJ
                try simp only [fill, slotOf, List.size_toArray, List.length_cons, List.length_nil, Nat.reduceAdd, List.getElem?_toArray, List.getElem?_cons_zero, List.getElem?_cons_succ, Option.bind_some, Act.put, List.setIfInBounds_toArray, List.set_cons_zero, List.set_cons_succ] at hK ⊢
                rw [d10, d6] at hK ⊢
                go_simp
                exact hK (.pointer (some ⟨sb, so + j * 2, none⟩)) _ HJ.out rfl (fun j y h => h) _ rfl
              · obtain rfl := Option.some.inj ho.symm
                have d11 : V 11 = .pointer (some ⟨sb, so + j * 2, none⟩) := hdep ⟨11, .data⟩ (by simp) rfl
                have d6 : V 6 = .bool true := hdep ⟨6, .guard⟩ (by simp) rfl
                have u0 : w9.cell? ⟨sb, so + j * 2, none⟩ = some (.int .i64 y0) := (hJ.cell (p := ⟨sb, so + j * 2 + 0, none⟩) HSL.out).trans (HSY.out 0 _ rfl)
                clear hdep ho hJ
                try simp only [fill, slotOf, List.size_toArray, List.length_cons, List.length_nil, Nat.reduceAdd, List.getElem?_toArray, List.getElem?_cons_zero, List.getElem?_cons_succ, Option.bind_some, Act.put, List.setIfInBounds_toArray, List.set_cons_zero, List.set_cons_succ] at hK ⊢
                rw [d11, d6] at hK ⊢
                go_simp
                exact hK (.int .i64 y0) _ HJ.out rfl (fun j y h => h) _ rfl
              · obtain rfl := Option.some.inj ho.symm
                have d6 : V 6 = .bool true := hdep ⟨6, .guard⟩ (by simp) rfl
                clear hdep ho hJ
                try simp only [fill, slotOf, List.size_toArray, List.length_cons, List.length_nil, Nat.reduceAdd, List.getElem?_toArray, List.getElem?_cons_zero, List.getElem?_cons_succ, Option.bind_some, Act.put, List.setIfInBounds_toArray, List.set_cons_zero, List.set_cons_succ] at hK ⊢
                rw [d6] at hK ⊢
                go_simp
                exact hK (.pointer (some ⟨wr.heap.size, 0, none⟩)) _ HJ.out rfl (fun j y h => h) _ rfl
              · obtain rfl := Option.some.inj ho.symm
                have d13 : V 13 = .pointer (some ⟨wr.heap.size, 0, none⟩) := hdep ⟨13, .data⟩ (by simp) rfl
                have d6 : V 6 = .bool true := hdep ⟨6, .guard⟩ (by simp) rfl
                have e0 : w9.cell? ⟨wr.heap.size, 0, none⟩ = some (.int .i64 x0) := (hJ.cell (p := ⟨wr.heap.size, 0, none⟩) HXL.out).trans (cell_blk' HXA.out rfl)
                clear hdep ho hJ
                try simp only [fill, slotOf, List.size_toArray, List.length_cons, List.length_nil, Nat.reduceAdd, List.getElem?_toArray, List.getElem?_cons_zero, List.getElem?_cons_succ, Option.bind_some, Act.put, List.setIfInBounds_toArray, List.set_cons_zero, List.set_cons_succ] at hK ⊢
                rw [d13, d6] at hK ⊢
                go_simp
                exact hK (.int .i64 x0) _ HJ.out rfl (fun j y h => h) _ rfl
              · obtain rfl := Option.some.inj ho.symm
                have d12 : V 12 = .int .i64 y0 := hdep ⟨12, .data⟩ (by simp) rfl
                have d14 : V 14 = .int .i64 x0 := hdep ⟨14, .data⟩ (by simp) rfl
                have d6 : V 6 = .bool true := hdep ⟨6, .guard⟩ (by simp) rfl
                have hz9 : decide (y0 ≥ x0) = false := HZ.out
                clear hdep ho hJ
                try simp only [fill, slotOf, List.size_toArray, List.length_cons, List.length_nil, Nat.reduceAdd, List.getElem?_toArray, List.getElem?_cons_zero, List.getElem?_cons_succ, Option.bind_some, Act.put, List.setIfInBounds_toArray, List.set_cons_zero, List.set_cons_succ] at hK ⊢
                rw [d12, d14, d6] at hK ⊢
                go_simp
                exact hK (.bool false) _ HJ.out rfl (fun j y h => h) _ rfl
              · obtain rfl := Option.some.inj ho.symm
                have d6 : V 6 = .bool true := hdep ⟨6, .data⟩ (by simp) rfl
                have d15 : V 15 = .bool false := hdep ⟨15, .data⟩ (by simp) rfl
                have d3 : V 3 = .bool false := hdep ⟨3, .guard⟩ (by simp) rfl
                clear hdep ho hJ
                try simp only [fill, slotOf, List.size_toArray, List.length_cons, List.length_nil, Nat.reduceAdd, List.getElem?_toArray, List.getElem?_cons_zero, List.getElem?_cons_succ, Option.bind_some, Act.put, List.setIfInBounds_toArray, List.set_cons_zero, List.set_cons_succ] at hK ⊢
                rw [d6, d15, d3] at hK ⊢
                go_simp
                exact hK (.bool false) _ HJ.out rfl (fun j y h => h) _ rfl
              · obtain rfl := Option.some.inj ho.symm
                have d3 : V 3 = .bool false := hdep ⟨3, .data⟩ (by simp) rfl
                have d16 : V 16 = .bool false := hdep ⟨16, .data⟩ (by simp) rfl
                clear hdep ho hJ
                try simp only [fill, slotOf, List.size_toArray, List.length_cons, List.length_nil, Nat.reduceAdd, List.getElem?_toArray, List.getElem?_cons_zero, List.getElem?_cons_succ, Option.bind_some, Act.put, List.setIfInBounds_toArray, List.set_cons_zero, List.set_cons_succ] at hK ⊢
                rw [d3, d16] at hK ⊢
                go_simp
                exact hK (.bool false) _ HJ.out rfl (fun j y h => h) _ rfl
            · intro V w9 hJ hall
              have dL : V 17 = .bool false := hall 17 (by decide)
              have HJ9 := Lib.hid hJ
              clear hall hJ
              simp only [fill, slotOf, List.size_toArray, List.length_cons, List.length_nil, Nat.reduceAdd, List.getElem?_toArray, List.getElem?_cons_zero, List.getElem?_cons_succ, Option.bind_some, Act.put, List.setIfInBounds_toArray, List.set_cons_zero, List.set_cons_succ]
              rw [dL]
              clear dL
              have HBZ := Lib.hid (HAL.out.trans (HJ9.out.mono HAL.out.size))
              go_wp2_with fail
              go_roundw
              case rel => exact ⟨j + 1 + 1, by omega, by go_num, HOK2, HBZ⟩
              case measure => simp [intOf]; omega
    · obtain rfl : k = n := by omega
      have HY := Lib.hid (RisIs.yes HOK.out)
      clear hkn
      go_wp2_with fail
      go_ret
      exact ⟨HY.out, HB.out⟩

end Go.Proofs.YtbdgcfimbblncaaGreatDoor
end PkMC5_6
section PkMC5_7
/- Package label's isLetter and isName, walked. -/
namespace Go.Proofs.YtbdgcfimbblncaaGreatDoor
open Go.RowKit LabPlain
set_option linter.unusedVariables false

set_option maxHeartbeats 400000 in
theorem isletter_any (c : Nat) (hc : c < 256) (w : World) :
    Calls Tryz.prog 178 #[.int .u8 (c : Int)] w fun e w' => e = .returned (.bool (isL c)) ∧ w = w' := by
  by_cases h1 : 97 ≤ c
  · have h1i : (97 : Int) ≤ (c : Int) := by omega
    cases h2 : decide (c ≤ 122) with
    | true =>
      have hR := Lib.hid (show isL c = true by unfold isL; rw [h2, decide_eq_true h1]; rfl)
      have h2i : decide ((c : Int) ≤ 122) = true := by rw [decide_eq_true_eq] at h2 ⊢; omega
      clear h1 h2
      go_enter Tryz.func178, Tryz.ntmps178
      go_wp2_with fail
      go_ret
      rw [hR.out]; exact ⟨rfl, rfl⟩
    | false =>
      have hR := Lib.hid (show isL c = false by unfold isL; rw [h2, Bool.and_false])
      have h2i : decide ((c : Int) ≤ 122) = false := by rw [decide_eq_false_iff_not] at h2 ⊢; omega
      clear h1 h2
      go_enter Tryz.func178, Tryz.ntmps178
      go_wp2_with fail
      go_ret
      rw [hR.out]; exact ⟨rfl, rfl⟩
  · have hR := Lib.hid (show isL c = false by simp [isL, h1])
    have h1i : (c : Int) < 97 := by omega
    clear h1
    go_enter Tryz.func178, Tryz.ntmps178
    go_wp2_with fail
    go_ret
    rw [hR.out]; exact ⟨rfl, rfl⟩

set_option maxRecDepth 100000 in
set_option maxHeartbeats 1000000 in
theorem isname_any (s : ByteArray) (hs : s.size ≤ 9223372036854775807) (w : World) :
    Calls Tryz.prog 158 #[.string s] w fun e w' => e = .returned (.bool (isNm s)) ∧ w = w' := by
  by_cases h1 : s.size < 1
  · have hR := Lib.hid (show isNm s = false by unfold isNm; simp [show ¬ 1 ≤ s.size by omega])
    have h1i : (s.size : Int) < 1 := by omega
    clear h1
    go_enter Tryz.func158, Tryz.ntmps158
    go_wp2_with fail
    go_ret
    rw [hR.out]; exact ⟨rfl, rfl⟩
  · by_cases h8 : 8 < s.size
    · have hR := Lib.hid (show isNm s = false by unfold isNm; simp [show ¬ s.size ≤ 8 by omega])
      have h1i : (1 : Int) ≤ (s.size : Int) := by omega
      have h8i : (8 : Int) < (s.size : Int) := by omega
      clear h1 h8
      go_enter Tryz.func158, Tryz.ntmps158
      go_wp2_with fail
      go_ret
      rw [hR.out]; exact ⟨rfl, rfl⟩
    · have h1i : (1 : Int) ≤ (s.size : Int) := by omega
      have h8i : (s.size : Int) ≤ 8 := by omega
      have h0 : 0 < s.size := by omega
      obtain ⟨c0, hc0⟩ : ∃ c0, c0 = at_ s 0 := ⟨_, rfl⟩
      have hs0 : (s[0]'h0).toNat = c0 := by rw [hc0, at_get s 0 h0]
      have hc256 : c0 < 256 := by rw [hc0]; exact at_lt s 0
      have HC0 := Lib.hid hc0
      have h18 : decide (1 ≤ s.size) = true ∧ decide (s.size ≤ 8) = true := ⟨decide_eq_true (by omega), decide_eq_true (by omega)⟩
      have H18 := Lib.hid h18
      clear h1 h8 hc0 h18
      cases hl : isL c0 with
      | false =>
        have hR := Lib.hid (show isNm s = false by unfold isNm; rw [← HC0.out, hl]; simp)
        have hlt := isletter_any c0 hc256 w
        rw [hl] at hlt
        have HL := Lib.hid hlt
        clear hlt hl
        go_enter Tryz.func158, Tryz.ntmps158
        go_wp2_with fail
        refine HL.out.mono ?_
        rintro e w1 ⟨rfl, rfl⟩
        go_wp2_with fail
        go_ret
        rw [hR.out]; exact ⟨rfl, rfl⟩
      | true =>
        have hR := Lib.hid (show isNm s = allC s s.size by unfold isNm; rw [← HC0.out, hl, H18.out.1, H18.out.2]; simp)
        have hlt := isletter_any c0 hc256 w
        rw [hl] at hlt
        have HL := Lib.hid hlt
        clear hlt hl
        go_enter Tryz.func158, Tryz.ntmps158
        go_wp2_with fail
        refine HL.out.mono ?_
        rintro e w1 ⟨rfl, rfl⟩
        go_wp2_with fail
        clear hs0
        go_loop [21] (fun s21 => ∃ k : Nat, k ≤ s.size ∧ s21 = .int .i64 (k : Int) ∧ Hid (allC s k = true)) (fun s21 => s.size - (intOf s21).toNat)
        case atStart => exact ⟨0, by omega, rfl, Lib.hid rfl⟩
        case round =>
          obtain ⟨k, hk, rfl, HA⟩ := hrel
          by_cases hks : k < s.size
          · obtain ⟨c, hc⟩ : ∃ c, c = at_ s k := ⟨_, rfl⟩
            have hsk : (s[k]'hks).toNat = c := by rw [hc, at_get s k hks]
            have hcl : c < 256 := by rw [hc]; exact at_lt s k
            have HCK := Lib.hid hc
            clear hc
            have hlt := isletter_any c hcl w
            cases hok : okC c with
            | true =>
              have HA2 := Lib.hid (show allC s (k + 1) = true by rw [allC, HA.out, ← HCK.out, hok]; rfl)
              cases hl : isL c with
              | true =>
                rw [hl] at hlt
                have HL := Lib.hid hlt
                clear hlt hl hok
                go_wp2_with fail
                refine HL.out.mono ?_
                rintro e w1 ⟨rfl, rfl⟩
                go_wp2_with fail
                go_round
                case rel => exact ⟨k + 1, by omega, by go_num, HA2⟩
                case measure => simp [intOf]; omega
              | false =>
                rw [hl] at hlt
                have HL := Lib.hid hlt
                have hcc : c = 95 ∨ (48 ≤ c ∧ c ≤ 57) := by
                  unfold okC at hok
                  rw [hl] at hok
                  simpa using hok
                clear hlt hl hok
                by_cases h95 : c = 95
                · have h95i : ((c : Int) != 95) = false := by rw [bne_eq_false_iff_eq]; omega
                  clear hcc h95
                  go_wp2_with fail
                  refine HL.out.mono ?_
                  rintro e w1 ⟨rfl, rfl⟩
                  go_wp2_with fail
                  go_round
                  case rel => exact ⟨k + 1, by omega, by go_num, HA2⟩
                  case measure => simp [intOf]; omega
                · have h95i : ((c : Int) != 95) = true := by rw [bne_iff_ne]; omega
                  have h48 : (48 : Int) ≤ (c : Int) := by omega
                  have h57 : (c : Int) ≤ 57 := by omega
                  clear hcc h95
                  go_wp2_with fail
                  refine HL.out.mono ?_
                  rintro e w1 ⟨rfl, rfl⟩
                  go_wp2_with fail
                  go_round
                  case rel => exact ⟨k + 1, by omega, by go_num, HA2⟩
                  case measure => simp [intOf]; omega
            | false =>
              have hl : isL c = false := by
                unfold okC at hok
                cases hl : isL c with
                | false => rfl
                | true => rw [hl] at hok; simp at hok
              rw [hl] at hlt
              have HL := Lib.hid hlt
              have hcc : c ≠ 95 ∧ (c < 48 ∨ 57 < c) := by
                unfold okC at hok
                rw [hl] at hok
                simp at hok
                omega
              have HF := Lib.hid (show isNm s = false by
                rw [hR.out]
                have := allC_no (s := s) (k := k) (by rw [← HCK.out]; exact hok) (s.size - (k + 1))
                rw [show k + 1 + (s.size - (k + 1)) = s.size from by omega] at this
                exact this)
              have h95i : ((c : Int) != 95) = true := by rw [bne_iff_ne]; omega
              clear hlt hl hok
              rcases hcc with ⟨h95, h48 | h57⟩
              · have h48i : (c : Int) < 48 := by omega
                clear h95 h48
                go_wp2_with fail
                refine HL.out.mono ?_
                rintro e w1 ⟨rfl, rfl⟩
                go_wp2_with fail
                go_ret
                rw [HF.out]; exact ⟨rfl, rfl⟩
              · have h57i : (57 : Int) < (c : Int) := by omega
                have h48i : (48 : Int) ≤ (c : Int) := by omega
                clear h95 h57
                go_wp2_with fail
                refine HL.out.mono ?_
                rintro e w1 ⟨rfl, rfl⟩
                go_wp2_with fail
                go_ret
                rw [HF.out]; exact ⟨rfl, rfl⟩
          · obtain rfl : k = s.size := by omega
            have HT := Lib.hid (show isNm s = true by rw [hR.out]; exact HA.out)
            clear hks
            go_wp2_with fail
            go_ret
            rw [HT.out]; exact ⟨rfl, rfl⟩
end Go.Proofs.YtbdgcfimbblncaaGreatDoor
end PkMC5_7
section PkMC5_8
/- A slice of labels, as a walk is told of it. -/
namespace Go.Proofs.YtbdgcfimbblncaaGreatDoor
open Go.RowKit LabPlain
set_option linter.unusedVariables false

structure LabsAt (w : World) (a : Option Addr) (n c : Nat) (l : List Lab) : Prop where
  len : l.length = n
  cap : n ≤ c
  capm : c ≤ 9223372036854775807
  nl : a = none → c = 0
  size : ∀ x ∈ l, x.1.size ≤ 140737488355328 ∧ x.2.size ≤ 140737488355328
  cells : 0 < n → ∃ b off, a = some ⟨b, off, none⟩ ∧ b < w.heap.size ∧ ∀ i, i < n → w.cell? ⟨b, off + i * 2, none⟩ = some (.string (l.getD i lab0).1) ∧ w.cell? ⟨b, off + i * 2 + 1, none⟩ = some (.string (l.getD i lab0).2)
theorem LabsAt.keep {w w' : World} {a : Option Addr} {n c : Nat} {l : List Lab} (h : LabsAt w a n c l) {B : Nat} (hb : Below B w w') (hB : w.heap.size ≤ B) : LabsAt w' a n c l :=
  ⟨h.len, h.cap, h.capm, h.nl, h.size, fun hn => by
    obtain ⟨b, off, ha, hlt, hc⟩ := h.cells hn
    exact ⟨b, off, ha, Nat.lt_of_lt_of_le hlt hb.size, fun i hi => ⟨(hb.cell (p := ⟨b, off + i * 2, none⟩) (Nat.lt_of_lt_of_le hlt hB)).trans (hc i hi).1, (hb.cell (p := ⟨b, off + i * 2 + 1, none⟩) (Nat.lt_of_lt_of_le hlt hB)).trans (hc i hi).2⟩⟩⟩
theorem LabsAt.kept {w w' : World} {a : Option Addr} {n c : Nat} {l : List Lab} (h : LabsAt w a n c l) (hb : Below w.heap.size w w') : LabsAt w' a n c l := h.keep hb (Nat.le_refl _)
theorem LabsAt.empty (w : World) (a : Option Addr) (c : Nat) (hc : c ≤ 9223372036854775807) (ha : a = none → c = 0) : LabsAt w a 0 c [] :=
  ⟨rfl, Nat.zero_le _, hc, ha, (fun x hx => by cases hx), fun h => absurd h (Nat.lt_irrefl 0)⟩
theorem lab_mem {l : List Lab} {i : Nat} (h : i < l.length) : l.getD i lab0 ∈ l := by
  have : l.getD i lab0 = l[i] := by simp [h]
  rw [this]; exact List.getElem_mem h
end Go.Proofs.YtbdgcfimbblncaaGreatDoor
end PkMC5_8
section PkMC5_9
/- Package label's Right, walked. -/
namespace Go.Proofs.YtbdgcfimbblncaaGreatDoor
open Go.RowKit LabPlain
set_option linter.unusedVariables false

theorem below_drewN {B : Nat} {a w : World} (h : Below B a w) (q : Nat) : Below B a (w.drewN q) := ⟨h.os, h.tape, h.output, h.size, h.block⟩

set_option maxRecDepth 100000 in
set_option maxHeartbeats 1000000 in
theorem right_any {w : World} {a : Option Addr} {n c : Nat} {l : List Lab} (h : LabsAt w a n c l) :
    Calls Tryz.prog 138 #[.slice a n c] w fun e w' => e = .returned (.bool (isSet l)) ∧ Below w.heap.size w w' := by
  have hlen := h.len
  have hcap := h.cap
  have hcm := h.capm
  have HH := Lib.hid h
  have HL := Lib.hid hlen
  clear h hlen
  by_cases h4 : 4 < n
  · have HR := Lib.hid (show isSet l = false by unfold isSet; rw [decide_eq_false (by rw [HL.out]; omega)]; rfl)
    have h4i : (4 : Int) < (n : Int) := by omega
    clear h4
    go_enter Tryz.func138, Tryz.ntmps138
    go_wp2_with fail
    go_ret
    rw [HR.out]; exact ⟨rfl, Below.refl _ _⟩
  · have h4i : (n : Int) ≤ 4 := by omega
    have HR := Lib.hid (show isSet l = upTo l n by unfold isSet; rw [decide_eq_true (by rw [HL.out]; omega), HL.out]; rfl)
    clear h4
    go_enter Tryz.func138, Tryz.ntmps138
    go_wp2_with fail
    go_loopw [10] (fun s10 wr => ∃ k : Nat, k ≤ n ∧ s10 = .int .i64 (k : Int) ∧ Hid (upTo l k = true) ∧ Hid (Below w.heap.size w wr)) (fun s10 _ => n - (intOf s10).toNat)
    case atStart => exact ⟨0, by omega, rfl, Lib.hid rfl, Lib.hid (Below.refl _ _)⟩
    case round =>
      obtain ⟨k, hk, rfl, HU, HB⟩ := hrel
      rename World => wr
      by_cases hkn : k < n
      · obtain ⟨b, off, rfl, hlt, hcell⟩ := (HH.out.kept HB.out).cells (by omega)
        obtain ⟨h1, h2⟩ := hcell k hkn
        have hsz := HH.out.size _ (lab_mem (l := l) (i := k) (by have := HL.out; omega))
        obtain ⟨x1, hx1⟩ : ∃ x, x = (l.getD k lab0).1 := ⟨_, rfl⟩
        obtain ⟨x2, hx2⟩ : ∃ x, x = (l.getD k lab0).2 := ⟨_, rfl⟩
        rw [← hx1] at h1 hsz
        rw [← hx2] at h2 hsz
        have HX1 := Lib.hid hx1
        have HX2 := Lib.hid hx2
        have HC := Lib.hid hcell
        have hno := fun (h : (isNm x1 && decide (x2.size ≤ 16) && (decide (k = 0) || ltB (l.getD (k - 1) lab0).1 x1)) = false) => (show isSet l = false by
          rw [HR.out]
          rw [HX1.out, HX2.out] at h
          have := upTo_no (l := l) (k := k) h (n - (k + 1))
          rw [show k + 1 + (n - (k + 1)) = n from by omega] at this
          exact this)
        have HNO := Lib.hid hno
        have hnm := isname_any x1 (by omega) (wr.alloc (.cells #[.string x1, .string x2] 150))
        have hb2 : Below w.heap.size w (wr.alloc (.cells #[.string x1, .string x2] 150)) := HB.out.alloc HB.out.size _
        have HB2 := Lib.hid hb2
        clear hx1 hx2 hcell hno hb2
        cases hn : isNm x1 with
        | false =>
          rw [hn] at hnm
          have HN := Lib.hid hnm
          have HF := Lib.hid (HNO.out (by rw [hn]; rfl))
          clear hnm hn
          go_wp2_with fail
          refine HN.out.mono ?_
          rintro e w2 ⟨rfl, rfl⟩
          go_wp2_with fail
          go_ret
          rw [HF.out]; exact ⟨rfl, HB2.out⟩
        | true =>
          rw [hn] at hnm
          have HN := Lib.hid hnm
          have HNM := Lib.hid hn
          clear hnm hn
          by_cases h16 : 16 < x2.size
          · have HF := Lib.hid (HNO.out (by rw [decide_eq_false (show ¬ x2.size ≤ 16 by omega), Bool.and_false]; rfl))
            have h16i : (16 : Int) < (x2.size : Int) := by omega
            clear h16
            go_wp2_with fail
            refine HN.out.mono ?_
            rintro e w2 ⟨rfl, rfl⟩
            go_wp2_with fail
            go_ret
            rw [HF.out]; exact ⟨rfl, HB2.out⟩
          · have h16i : (x2.size : Int) ≤ 16 := by omega
            have HD := Lib.hid (show decide (x2.size ≤ 16) = true from decide_eq_true (by omega))
            clear h16
            rcases Nat.eq_zero_or_pos k with rfl | hk0
            · rw [Nat.zero_mul, Nat.add_zero] at h1 h2
              have HU2 := Lib.hid (show upTo l (0 + 1) = true by rw [upTo, HU.out, ← HX1.out, ← HX2.out, HNM.out, HD.out]; rfl)
              go_wp2_with fail
              refine HN.out.mono ?_
              rintro e w2 ⟨rfl, rfl⟩
              go_wp2_with fail
              go_quiet (fail)
              rename Nat => nq
              go_wp2_with fail
              go_roundw
              case rel => exact ⟨1, by omega, by go_num, HU2, Lib.hid (below_drewN HB2.out nq)⟩
              case measure => simp [intOf]; omega
            · obtain ⟨j, rfl⟩ : ∃ j, k = j + 1 := ⟨k - 1, by omega⟩
              obtain ⟨y, hy⟩ : ∃ y, y = (l.getD j lab0).1 := ⟨_, rfl⟩
              have hcy := (HC.out j (by omega)).1
              rw [← hy] at hcy
              have hcy2 : (wr.alloc (.cells #[.string x1, .string x2] 150)).cell? ⟨b, off + j * 2, none⟩ = some (.string y) := by
                rw [← hcy]; exact ((Below.refl wr.heap.size wr).alloc (Nat.le_refl _) _).cell (p := ⟨b, off + j * 2, none⟩) hlt
              have HY := Lib.hid hy
              have hjn : (j : Int) < (n : Int) := by omega
              have hw1 : IntKind.i64.wrap (j : Int) = (j : Int) := IntWalk.i64_in _ (by omega)
              have hw2 : IntKind.i64.wrap ((j : Int) + 1 - 1) = (j : Int) := by rw [Int.add_sub_cancel]; exact hw1
              clear hy hcy hk0
              cases hlt2 : ltB y x1 with
              | true =>
                have hle : (Op.bytesLess x1.toList y.toList || x1.toList == y.toList) = false := by rw [leq_not, hlt2]; rfl
                have HU2 := Lib.hid (show upTo l (j + 1 + 1) = true by rw [upTo, HU.out, ← HX1.out, ← HX2.out, HNM.out, HD.out, Nat.add_sub_cancel, ← HY.out, hlt2]; simp)
                clear hlt2
                go_wp2_with fail
                refine HN.out.mono ?_
                rintro e w2 ⟨rfl, rfl⟩
                go_wp2_with fail
                go_quiet (fail)
                rename Nat => nq
                go_wp2_with fail
                go_roundw
                case rel => exact ⟨j + 1 + 1, by omega, by go_num, HU2, Lib.hid (below_drewN HB2.out nq)⟩
                case measure => simp [intOf]; omega
              | false =>
                have hle : (Op.bytesLess x1.toList y.toList || x1.toList == y.toList) = true := by rw [leq_not, hlt2]; rfl
                have HF := Lib.hid (HNO.out (by rw [Nat.add_sub_cancel, ← HY.out, hlt2]; simp))
                clear hlt2
                go_wp2_with fail
                refine HN.out.mono ?_
                rintro e w2 ⟨rfl, rfl⟩
                go_wp2_with fail
                go_quiet (fail)
                rename Nat => nq
                go_wp2_with fail
                go_ret
                rw [HF.out]; exact ⟨rfl, below_drewN HB2.out nq⟩
      · obtain rfl : k = n := by omega
        have HT := Lib.hid (show isSet l = true by rw [HR.out]; exact HU.out)
        clear hkn
        go_wp2_with fail
        go_ret
        rw [HT.out]; exact ⟨rfl, HB.out⟩
end Go.Proofs.YtbdgcfimbblncaaGreatDoor
end PkMC5_9
section PkMC5_10
/- append of bytes to bytes that the call owns, and where the new row lies; two rows kept apart. -/
namespace Go.Proofs.YtbdgcfimbblncaaGreatDoor
open Go.RowKit
set_option linter.unusedVariables false

theorem own_some2 {w : World} {base n : Nat} {e : TypeId} {size : Nat} {v : Value} {xs : List Value} (h : w.ownsRow base e size v n xs) (hn : 0 < n) : ∃ g c, v = .slice (some ⟨g, 0, none⟩) n c := by
  rcases h.2 with ⟨_, h0⟩ | ⟨g, cap, cur, he, _⟩
  · omega
  · exact ⟨g, cap, he⟩
theorem wpList_append_bytes_at {w : World} {ops : Array Oper} {rest : List Oper} {o : Oper} {a : Act} {Q : Exit → Act → World → Prop} (hgd : o.guard = none) (s x : Operand)
    (ho : o.op = .call { callee := .builtin .append, args := #[s, x], argTypes := #[30, 30] })
    (base : Nat) (v : Value) (n : Nat) (xs : List Nat) (hs : a.eval s = v) (hown : w.ownsRow base 5 1 v n (bv xs))
    (src : Option Addr) (m c : Nat) (ys : List Nat) (hx : a.eval x = .slice src m c) (hb : BytesAt w src m c ys)
    (h63 : n + m ≤ 140737488355328) (hbase : base ≤ w.heap.size)
    (h : ∀ v' w', w'.ownsRow base 5 1 v' (n + m) (bv (xs ++ ys)) → w.grownBy w' v.ownBlock → (v'.ownBlock = v.ownBlock ∨ v'.ownBlock = some w.heap.size) → wpList Tryz.prog ops Q rest (a.put o.dst v') w') : wpList Tryz.prog ops Q (o :: rest) a w := by
  obtain ⟨i0, hi, hz0, hz1, hz2⟩ := info_parts info_u8
  rcases src with _ | ad
  · have hc := hb.nl rfl
    have hm : m = 0 := by have := hb.cap; omega
    subst hm
    subst hc
    have hy : ys = [] := List.eq_nil_of_length_eq_zero hb.len
    subst hy
    refine wpList_append_own_none hgd s x 30 ho base 5 i0 1 Tryz.underlying30 hi v n (bv xs) hs hown hx ?_
    exact h v w (by simpa using hown) (World.grownBy.refl _ _) (.inl rfl)
  · refine wpList_append_own_at w hgd s x 30 ho base 5 i0 (.int .u8 0) 1 1 Tryz.underlying30 hi hz0 hz1 hz2 rfl (by decide) v n (bv xs) hs hown ad m c (bv ys) hx (by rw [bv_length, hb.len]; omega) hb.src (bv_oneCell _) (by unfold maxLen; omega) (by omega) hbase ?_
    intro v' w' h1 h2 _ h4
    exact h v' w' (by rw [bv_append]; exact h1) h2 h4

theorem step_append_own_at2 {P : Program} {ops : Array Oper} {o : Oper} {a : Act} {w : World} {K : Act → World → Prop} {Q : Exit → Act → World → Prop} {E : Prop}
    (hgd : o.guard = none) (s x : Operand) (t : TypeId) (ho : o.op = .call { callee := .builtin .append, args := #[s, x], argTypes := #[t, t] })
    (base : Nat) (e : TypeId) (i : TypeInfo) (z : Value) (size bytes : Nat) (ht : P.underlying t = some (.slice e)) (hi : P.info? e = some i) (hz : i.zero = some z)
    (hsize : i.size = size) (hby : i.bytes = bytes) (hzs : z.cells.size = size) (hsz : 0 < size)
    (v : Value) (n : Nat) (xs : List Value) (hs : a.eval s = v) (hown : w.ownsRow base e size v n xs)
    (ad : Addr) (m c : Nat) (news : List Value) (hx : a.eval x = .slice (some ad) m c) (hl : news.length = m * size) (hnews : ∀ j u, news[j]? = some u → w.cell? (ad.add j) = some u) (h1 : ∀ u ∈ news, u.oneCell' = true)
    (h63 : n + m ≤ maxLen) (hbytes : (n + m) * bytes ≤ 140737488355328) (hbase : base ≤ w.heap.size)
    (h : ∀ v' w', w'.ownsRow base e size v' (n + m) (xs ++ news) → w.grownBy w' v.ownBlock → (v'.ownBlock = v.ownBlock ∨ v'.ownBlock = some w.heap.size) → K (a.put o.dst v') w') :
    if Region.wanted o (yielded ops a.tmps) = true then Oper.wp P o a w K Q else E := by
  have hw : Region.wanted o (yielded ops a.tmps) = true := by simp [Region.wanted, hgd]
  rw [if_pos hw]
  obtain ⟨v', w', hr, h2, h3, h4, h5⟩ := run_append_own_at (P := P) w base t o.type e i z size bytes ht hi hz hsize hby hzs hsz v n xs hown ad m c news hl hnews h1 h63 hbytes hbase
  unfold Oper.wp execOp
  simp only [ho, resolve, invoke, builtin, Sem.run_bind, Sem.run_pure, Result.andThen_ok, List.map_toArray, List.map_cons, List.map_nil, hs, hx, hr]
  exact h v' w' h2 h3 h5

/-- what one row's block is, another one's isn't -/
def Apart (v u : Value) : Prop := v.ownBlock = none ∨ v.ownBlock ≠ u.ownBlock
theorem Apart.none (u : Value) : Apart (.slice none 0 0) u := .inl rfl
theorem Apart.symm {v u : Value} (h : Apart v u) : Apart u v := by
  unfold Apart at h ⊢
  cases hu : u.ownBlock with
  | none => exact .inl rfl
  | some k =>
    rcases h with h | h
    · rw [h]; exact .inr (by simp)
    · rw [hu] at h; exact .inr (fun e => h e.symm)
/-- v moved or not, u stays: still apart -/
theorem Apart.moved {s : Nat} {v v' u : Value} (h : Apart v u) (hat : v'.ownBlock = v.ownBlock ∨ v'.ownBlock = some s) (hu : ∀ k, u.ownBlock = some k → k < s) : Apart v' u := by
  rcases hat with e | e
  · unfold Apart; rw [e]; exact h
  · refine .inr (fun e2 => ?_)
    rw [e] at e2
    have := hu _ e2.symm
    omega
theorem Apart.keeps {w w' : World} {base n : Nat} {e : TypeId} {size : Nat} {v u : Value} {xs : List Value} (h : Apart u v) (hown : w.ownsRow base e size u n xs) (hg : w.grownBy w' v.ownBlock) : w'.ownsRow base e size u n xs := hown.kept hg h
end Go.Proofs.YtbdgcfimbblncaaGreatDoor
end PkMC5_10
