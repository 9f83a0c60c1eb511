/- Texts put together by packtpl2.py: MfI. -/
import Derived.Test.YtbdgcfimbblncaaGreatDoorPkMR15
import Derived.Laws.StructEq
section PkMR16_0
/- Manifests: the fixed edit lives; few; and what one holds, as the law asks. Written by genmfi.py. -/
namespace Go.Proofs.YtbdgcfimbblncaaGreatDoor
open Go.RowKit LabPlain
set_option linter.unusedVariables false

@[go_sem] theorem eq_ent (x0 : ByteArray) (x1 : Int) (x2 : ByteArray) (x3 x4 x5 x6 x7 x8 : Int) (w : World) : (Op.equalIn 10000 53 (.agg #[.string x0, .int .i64 x1, .string x2, .int .i64 x3, .int .i64 x4, .int .i64 x5, .int .i64 x6, .int .u32 x7, .int .i64 x8]) (.agg #[.string x0, .int .i64 x1, .string x2, .int .i64 x3, .int .i64 x4, .int .i64 x5, .int .i64 x6, .int .u32 x7, .int .i64 x8])).run Tryz.prog w = .ok true w := by
  have us := Tryz.underlying9
  have ag := Tryz.isAgg9
  have zs := Tryz.sizeOf9
  have hS : Tryz.prog.underlying 53 = some (.struct (Tryz.prog.fieldsOf 53)) := by kernel_rfl
  have hp : Tryz.prog.stoodInHeld 53 = false := by kernel_rfl
  rw [show (10000 : Nat) = 9999 + 1 from rfl, run_equalIn_agg w 9999 53 _ _ hS hp]
  simp only [Program.fieldsOf, Tryz.underlying53]
  go_simp
@[go_sem] theorem guard_ent (x y : Operand) (xs ys : Array Value) (w : World) : (eqGuard .neq 53 x y (.agg xs) (.agg ys)).run Tryz.prog w = .ok () w := run_eqGuard_agg w .neq 53 x y xs ys (by kernel_rfl)
@[go_sem] theorem neq_ent (x0 : ByteArray) (x1 : Int) (x2 : ByteArray) (x3 x4 x5 x6 x7 x8 : Int) (w : World) : (binOp .neq 53 (.agg #[.string x0, .int .i64 x1, .string x2, .int .i64 x3, .int .i64 x4, .int .i64 x5, .int .i64 x6, .int .u32 x7, .int .i64 x8]) (.agg #[.string x0, .int .i64 x1, .string x2, .int .i64 x3, .int .i64 x4, .int .i64 x5, .int .i64 x6, .int .u32 x7, .int .i64 x8])).run Tryz.prog w = .ok (.bool false) w := by
  rw [run_neq_struct, eq_ent]; rfl

def BoolIs (e : Ending) : Prop := ∃ b, e = .returned (.bool b)
set_option maxRecDepth 100000 in
set_option maxHeartbeats 4000000 in
theorem lives_true (w : World) : Calls Tryz.prog 6 #[] w fun e w' => e = .returned (.bool true) ∧ Below w.heap.size w w' := by
  obtain ⟨wa, hwa⟩ : ∃ wa, wa = w.alloc (.cells #[.int .i64 1, .int .i64 5] 43) := ⟨_, rfl⟩
  have ba : Below w.heap.size w wa := by rw [hwa]; exact (Below.refl _ _).alloc (Nat.le_refl _) _
  have hv : VecAt MarkS wa (some ⟨w.heap.size, 0, none⟩) 1 1 [(1, 5)] := by
    rw [hwa]
    exact VecAt.ofOwn (S := MarkS) (World.ownsRow_lit (base := w.heap.size) (e := 43) (size := 2) w #[.int .i64 1, .int .i64 5] 1 (Nat.le_refl _) (by unfold maxLen; omega) rfl) rfl (fun _ _ => trivial)
  have HAP := Lib.hid (apply_fix hv)
  have HBA := Lib.hid ba
  have HWA := Lib.hid hwa
  clear hwa ba hv
  go_enter Tryz.func6, Tryz.ntmps6
  go_wp2_with fail
  rw [← HWA.out]
  refine HAP.out.mono ?_
  rintro e w1 ⟨ea, ec, g1, c1, g2, c2, rfl, hm, ho, hb1⟩
  obtain ⟨w2, hw2⟩ : ∃ w2, w2 = w1.alloc (.cells #[.int .i64 1, .int .i64 0, .int .i64 0, .slice ea 0 ec, .slice (some ⟨g1, 0, none⟩) 1 c1, .slice (some ⟨g2, 0, none⟩) 1 c2] 26) := ⟨_, rfl⟩
  have hb2 : Below w1.heap.size w1 w2 := by rw [hw2]; exact (Below.refl _ _).alloc (Nat.le_refl _) _
  have hg2 : w2.heap[w1.heap.size]? = some (.cells #[.int .i64 1, .int .i64 0, .int .i64 0, .slice ea 0 ec, .slice (some ⟨g1, 0, none⟩) 1 c1, .slice (some ⟨g2, 0, none⟩) 1 c2] 26 (0, 0)) := by rw [hw2]; exact heap_alloc_new _ _
  have HB2 := Lib.hid ((HBA.out.trans (hb1.mono HBA.out.size)).trans (hb2.mono (HBA.out.trans (hb1.mono HBA.out.size)).size))
  have HG2 := Lib.hid hg2
  have HM2 := Lib.hid (hm.kept hb2)
  have HO2 := Lib.hid (ho.kept hb2)
  have HW2 := Lib.hid hw2
  have HMK := Lib.hid (mark_any (w := w2) (s := 1) (d := 0) (hz := 0) (ea := ea) (en := 0) (ec := ec) (oa := some ⟨g2, 0, none⟩) (on := 1) (oc := c2) HM2.out 1)
  clear hm ho hb1 hb2 hg2 hw2
  go_wp2_with fail
  rw [← HW2.out]
  refine HMK.out.mono ?_
  rintro e w3 ⟨he3, hb3⟩
  obtain rfl : e = .returned (.int .i64 5) := he3
  have hg3 := (hb3.block w1.heap.size (Array.getElem?_eq_some_iff.1 HG2.out).1).trans HG2.out
  have m0 : w3.cell? ⟨w1.heap.size, 0, none⟩ = some (.int .i64 1) := cell_blk hg3 rfl
  have m1 : w3.cell? ⟨w1.heap.size, 1, none⟩ = some (.int .i64 0) := cell_blk hg3 rfl
  have m2 : w3.cell? ⟨w1.heap.size, 2, none⟩ = some (.int .i64 0) := cell_blk hg3 rfl
  have m3 : w3.cell? ⟨w1.heap.size, 3, none⟩ = some (.slice ea 0 ec) := cell_blk hg3 rfl
  have m4 : w3.cell? ⟨w1.heap.size, 4, none⟩ = some (.slice (some ⟨g1, 0, none⟩) 1 c1) := cell_blk hg3 rfl
  have m5 : w3.cell? ⟨w1.heap.size, 5, none⟩ = some (.slice (some ⟨g2, 0, none⟩) 1 c2) := cell_blk hg3 rfl
  have HB3 := Lib.hid (HB2.out.trans (hb3.mono HB2.out.size))
  have HDI := Lib.hid (did_any (w := w3) (s := 1) (d := 0) (hz := 0) (ea := ea) (en := 0) (ec := ec) (ma := some ⟨g1, 0, none⟩) (mn := 1) (mc := c1) (HO2.out.kept hb3) 1 1 1)
  clear hb3 hg3
  go_wp2_with fail
  refine HDI.out.mono ?_
  rintro e w4 ⟨he4, hb4⟩
  obtain rfl : e = .returned (.bool true) := he4
  have HB4 := Lib.hid (HB3.out.trans (hb4.mono HB3.out.size))
  clear hb4
  go_wp2_with fail
  go_ret
  exact ⟨rfl, HB4.out⟩

set_option maxRecDepth 100000 in
set_option maxHeartbeats 4000000 in
theorem few_any {w : World} {s d hz : Int} {ea ma oa : Option Addr} {en ec mn mc on oc : Nat} {l : List EntV} (h : VecAt EntS w ea en ec l) :
    Calls Tryz.prog 7 #[.agg #[.int .i64 s, .int .i64 d, .int .i64 hz, .slice ea en ec, .slice ma mn mc, .slice oa on oc]] w fun e w' => BoolIs e ∧ Below w.heap.size w w' := by
  have hcap := h.cap
  have hcm := h.capm
  have HH := Lib.hid h
  obtain ⟨wb, hwb⟩ : ∃ wb, wb = w.alloc (.cells #[.int .i64 s, .int .i64 d, .int .i64 hz, .slice ea en ec, .slice ma mn mc, .slice oa on oc] 26) := ⟨_, rfl⟩
  have bb : Below w.heap.size w wb := by rw [hwb]; exact (Below.refl _ _).alloc (Nat.le_refl _) _
  have ga : wb.heap[w.heap.size]? = some (.cells #[.int .i64 s, .int .i64 d, .int .i64 hz, .slice ea en ec, .slice ma mn mc, .slice oa on oc] 26 (0, 0)) := by rw [hwb]; exact heap_alloc_new _ _
  have HBB := Lib.hid bb
  have HWB := Lib.hid (show w.alloc (.cells #[.int .i64 s, .int .i64 d, .int .i64 hz, .slice ea en ec, .slice ma mn mc, .slice oa on oc] 26) = wb from hwb.symm)
  have m0 : wb.cell? ⟨w.heap.size, 0, none⟩ = some (.int .i64 s) := cell_blk ga rfl
  have m1 : wb.cell? ⟨w.heap.size, 1, none⟩ = some (.int .i64 d) := cell_blk ga rfl
  have m2 : wb.cell? ⟨w.heap.size, 2, none⟩ = some (.int .i64 hz) := cell_blk ga rfl
  have m3 : wb.cell? ⟨w.heap.size, 3, none⟩ = some (.slice ea en ec) := cell_blk ga rfl
  have m4 : wb.cell? ⟨w.heap.size, 4, none⟩ = some (.slice ma mn mc) := cell_blk ga rfl
  have m5 : wb.cell? ⟨w.heap.size, 5, none⟩ = some (.slice oa on oc) := cell_blk ga rfl
  clear hwb bb ga h
  go_enter Tryz.func7, Tryz.ntmps7
  by_cases b1 : (en : Int) > 300
  · go_wp2_with fail
    first | go_ret | (rw [HWB.out]; go_wp2_with fail; go_ret)
    exact ⟨⟨_, rfl⟩, by first | exact HBB.out | (rw [HWB.out]; exact HBB.out)⟩
  by_cases b2 : (mn : Int) > 100
  · go_wp2_with fail
    first | go_ret | (rw [HWB.out]; go_wp2_with fail; go_ret)
    exact ⟨⟨_, rfl⟩, by first | exact HBB.out | (rw [HWB.out]; exact HBB.out)⟩
  by_cases b3 : (on : Int) > 20
  · go_wp2_with fail
    first | go_ret | (rw [HWB.out]; go_wp2_with fail; go_ret)
    exact ⟨⟨_, rfl⟩, by first | exact HBB.out | (rw [HWB.out]; exact HBB.out)⟩
  go_wp2_with fail
  rw [HWB.out]
  clear m0 m1 m2 m3 m4 m5 b2 b3
  go_loopw [4, 24] (fun _ s24 wr => ∃ k : Nat, k ≤ en ∧ s24 = .int .i64 (k : Int) ∧ Hid (Below wb.heap.size wb wr)) (fun _ s24 _ => en - (intOf s24).toNat)
  case atStart => exact ⟨0, by omega, rfl, Lib.hid (Below.refl _ _)⟩
  case round =>
    obtain ⟨k, hk, rfl, HB⟩ := hrel
    rename World => wr
    by_cases hkn : k < en
    · have hki : (k : Int) < (en : Int) := by omega
      obtain ⟨sb, so, rfl, hsl, _, hsc9⟩ := (HH.out.kept (HBB.out.trans (HB.out.mono HBB.out.size))).get hkn
      generalize l.getD k EntS.z = sx at hsc9
      obtain ⟨x0, x1, x2, x3, x4, x5, x6, x7, x8⟩ := sx
      have d0 : wr.cell? ⟨sb, so + k * 9, none⟩ = some (.string x0) := hsc9 0 _ rfl
      have d1 : wr.cell? ⟨sb, so + k * 9 + 1, none⟩ = some (.int .i64 x1) := hsc9 1 _ rfl
      have d2 : wr.cell? ⟨sb, so + k * 9 + 2, none⟩ = some (.string x2) := hsc9 2 _ rfl
      have d3 : wr.cell? ⟨sb, so + k * 9 + 3, none⟩ = some (.int .i64 x3) := hsc9 3 _ rfl
      have d4 : wr.cell? ⟨sb, so + k * 9 + 4, none⟩ = some (.int .i64 x4) := hsc9 4 _ rfl
      have d5 : wr.cell? ⟨sb, so + k * 9 + 5, none⟩ = some (.int .i64 x5) := hsc9 5 _ rfl
      have d6 : wr.cell? ⟨sb, so + k * 9 + 6, none⟩ = some (.int .i64 x6) := hsc9 6 _ rfl
      have d7 : wr.cell? ⟨sb, so + k * 9 + 7, none⟩ = some (.int .u32 x7) := hsc9 7 _ rfl
      have d8 : wr.cell? ⟨sb, so + k * 9 + 8, none⟩ = some (.int .i64 x8) := hsc9 8 _ rfl
      have HAL := Lib.hid (show Below wb.heap.size wb (wr.alloc (.cells #[.string x0, .int .i64 x1, .string x2, .int .i64 x3, .int .i64 x4, .int .i64 x5, .int .i64 x6, .int .u32 x7, .int .i64 x8] 53)) from HB.out.alloc HB.out.size _)
      have HE := Lib.hid (show Below w.heap.size w (wr.alloc (.cells #[.string x0, .int .i64 x1, .string x2, .int .i64 x3, .int .i64 x4, .int .i64 x5, .int .i64 x6, .int .u32 x7, .int .i64 x8] 53)) from HBB.out.trans (HAL.out.mono HBB.out.size))
      clear hsc9 hsl
      by_cases q1 : (x0.size : Int) > 100
      · go_wp2_with fail
        go_ret
        exact ⟨⟨_, rfl⟩, HE.out⟩
      by_cases q2 : (x2.size : Int) > 1200
      · go_wp2_with fail
        go_ret
        exact ⟨⟨_, rfl⟩, HE.out⟩
      go_wp2_with fail
      go_roundw
      case rel => exact ⟨k + 1, by omega, by go_num, HAL⟩
      case measure => simp [intOf]; omega
    · obtain rfl : en = k := by omega
      have HE := Lib.hid (HBB.out.trans (HB.out.mono HBB.out.size))
      clear hkn
      go_wp2_with fail
      go_ret
      exact ⟨⟨_, rfl⟩, HE.out⟩


end Go.Proofs.YtbdgcfimbblncaaGreatDoor
end PkMR16_0
