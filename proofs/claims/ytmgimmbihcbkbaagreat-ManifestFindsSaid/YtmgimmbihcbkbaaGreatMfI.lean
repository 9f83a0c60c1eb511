/- Manifests: the fixed edit lives; few; and what one holds, as the law asks. Written by genmfi.py. -/
import Derived.Test.YtmgimmbihcbkbaaGreatMfH
import Derived.Laws.StructEq
namespace Go.Proofs.YtmgimmbihcbkbaaGreat
open Go.RowKit LabPlain
set_option linter.unusedVariables false

@[go_sem] theorem eq_ent (x0 : ByteArray) (x1 : Int) (x2 : ByteArray) (x3 x4 x5 x6 x7 x8 : Int) (w : World) : (Op.equalIn 10000 33 (.agg #[.string x0, .int .i64 x1, .string x2, .int .i64 x3, .int .i64 x4, .int .i64 x5, .int .i64 x6, .int .u32 x7, .int .i64 x8]) (.agg #[.string x0, .int .i64 x1, .string x2, .int .i64 x3, .int .i64 x4, .int .i64 x5, .int .i64 x6, .int .u32 x7, .int .i64 x8])).run Tryz.prog w = .ok true w := by
  have us := Tryz.underlying9
  have ag := Tryz.isAgg9
  have zs := Tryz.sizeOf9
  have hS : Tryz.prog.underlying 33 = some (.struct (Tryz.prog.fieldsOf 33)) := by kernel_rfl
  have hp : Tryz.prog.stoodInHeld 33 = false := by kernel_rfl
  rw [show (10000 : Nat) = 9999 + 1 from rfl, run_equalIn_agg w 9999 33 _ _ hS hp]
  simp only [Program.fieldsOf, Tryz.underlying33]
  go_simp
@[go_sem] theorem guard_ent (x y : Operand) (xs ys : Array Value) (w : World) : (eqGuard .neq 33 x y (.agg xs) (.agg ys)).run Tryz.prog w = .ok () w := run_eqGuard_agg w .neq 33 x y xs ys (by kernel_rfl)
@[go_sem] theorem neq_ent (x0 : ByteArray) (x1 : Int) (x2 : ByteArray) (x3 x4 x5 x6 x7 x8 : Int) (w : World) : (binOp .neq 33 (.agg #[.string x0, .int .i64 x1, .string x2, .int .i64 x3, .int .i64 x4, .int .i64 x5, .int .i64 x6, .int .u32 x7, .int .i64 x8]) (.agg #[.string x0, .int .i64 x1, .string x2, .int .i64 x3, .int .i64 x4, .int .i64 x5, .int .i64 x6, .int .u32 x7, .int .i64 x8])).run Tryz.prog w = .ok (.bool false) w := by
  rw [run_neq_struct, eq_ent]; rfl

def BoolIs (e : Ending) : Prop := ∃ b, e = .returned (.bool b)
set_option maxRecDepth 100000 in
set_option maxHeartbeats 4000000 in
theorem lives_true (w : World) : Calls Tryz.prog 4 #[] w fun e w' => e = .returned (.bool true) ∧ Below w.heap.size w w' := by
  obtain ⟨wa, hwa⟩ : ∃ wa, wa = w.alloc (.cells #[.int .i64 1, .int .i64 5] 44) := ⟨_, rfl⟩
  have ba : Below w.heap.size w wa := by rw [hwa]; exact (Below.refl _ _).alloc (Nat.le_refl _) _
  have hv : VecAt MarkS wa (some ⟨w.heap.size, 0, none⟩) 1 1 [(1, 5)] := by
    rw [hwa]
    exact VecAt.ofOwn (S := MarkS) (World.ownsRow_lit (base := w.heap.size) (e := 44) (size := 2) w #[.int .i64 1, .int .i64 5] 1 (Nat.le_refl _) (by unfold maxLen; omega) rfl) rfl (fun _ _ => trivial)
  have HAP := Lib.hid (apply_fix hv)
  have HBA := Lib.hid ba
  have HWA := Lib.hid hwa
  clear hwa ba hv
  go_enter Tryz.func4, Tryz.ntmps4
  go_wp2_with fail
  rw [← HWA.out]
  refine HAP.out.mono ?_
  rintro e w1 ⟨ea, ec, g1, c1, g2, c2, rfl, hm, ho, hb1⟩
  obtain ⟨w2, hw2⟩ : ∃ w2, w2 = w1.alloc (.cells #[.int .i64 1, .int .i64 0, .int .i64 0, .slice ea 0 ec, .slice (some ⟨g1, 0, none⟩) 1 c1, .slice (some ⟨g2, 0, none⟩) 1 c2] 26) := ⟨_, rfl⟩
  have hb2 : Below w1.heap.size w1 w2 := by rw [hw2]; exact (Below.refl _ _).alloc (Nat.le_refl _) _
  have hg2 : w2.heap[w1.heap.size]? = some (.cells #[.int .i64 1, .int .i64 0, .int .i64 0, .slice ea 0 ec, .slice (some ⟨g1, 0, none⟩) 1 c1, .slice (some ⟨g2, 0, none⟩) 1 c2] 26 (0, 0)) := by rw [hw2]; exact heap_alloc_new _ _
  have HB2 := Lib.hid ((HBA.out.trans (hb1.mono HBA.out.size)).trans (hb2.mono (HBA.out.trans (hb1.mono HBA.out.size)).size))
  have HG2 := Lib.hid hg2
  have HM2 := Lib.hid (hm.kept hb2)
  have HO2 := Lib.hid (ho.kept hb2)
  have HW2 := Lib.hid hw2
  have HMK := Lib.hid (mark_any (w := w2) (s := 1) (d := 0) (hz := 0) (ea := ea) (en := 0) (ec := ec) (oa := some ⟨g2, 0, none⟩) (on := 1) (oc := c2) HM2.out 1)
  clear hm ho hb1 hb2 hg2 hw2
  go_wp2_with fail
  rw [← HW2.out]
  refine HMK.out.mono ?_
  rintro e w3 ⟨he3, hb3⟩
  obtain rfl : e = .returned (.int .i64 5) := he3
  have hg3 := (hb3.block w1.heap.size (Array.getElem?_eq_some_iff.1 HG2.out).1).trans HG2.out
  have m0 : w3.cell? ⟨w1.heap.size, 0, none⟩ = some (.int .i64 1) := cell_blk hg3 rfl
  have m1 : w3.cell? ⟨w1.heap.size, 1, none⟩ = some (.int .i64 0) := cell_blk hg3 rfl
  have m2 : w3.cell? ⟨w1.heap.size, 2, none⟩ = some (.int .i64 0) := cell_blk hg3 rfl
  have m3 : w3.cell? ⟨w1.heap.size, 3, none⟩ = some (.slice ea 0 ec) := cell_blk hg3 rfl
  have m4 : w3.cell? ⟨w1.heap.size, 4, none⟩ = some (.slice (some ⟨g1, 0, none⟩) 1 c1) := cell_blk hg3 rfl
  have m5 : w3.cell? ⟨w1.heap.size, 5, none⟩ = some (.slice (some ⟨g2, 0, none⟩) 1 c2) := cell_blk hg3 rfl
  have HB3 := Lib.hid (HB2.out.trans (hb3.mono HB2.out.size))
  have HDI := Lib.hid (did_any (w := w3) (s := 1) (d := 0) (hz := 0) (ea := ea) (en := 0) (ec := ec) (ma := some ⟨g1, 0, none⟩) (mn := 1) (mc := c1) (HO2.out.kept hb3) 1 1 1)
  clear hb3 hg3
  go_wp2_with fail
  refine HDI.out.mono ?_
  rintro e w4 ⟨he4, hb4⟩
  obtain rfl : e = .returned (.bool true) := he4
  have HB4 := Lib.hid (HB3.out.trans (hb4.mono HB3.out.size))
  clear hb4
  go_wp2_with fail
  go_ret
  exact ⟨rfl, HB4.out⟩

set_option maxRecDepth 100000 in
set_option maxHeartbeats 4000000 in
theorem few_any {w : World} {s d hz : Int} {ea ma oa : Option Addr} {en ec mn mc on oc : Nat} {l : List EntV} (h : VecAt EntS w ea en ec l) :
    Calls Tryz.prog 5 #[.agg #[.int .i64 s, .int .i64 d, .int .i64 hz, .slice ea en ec, .slice ma mn mc, .slice oa on oc]] w fun e w' => BoolIs e ∧ Below w.heap.size w w' := by
  have hcap := h.cap
  have hcm := h.capm
  have HH := Lib.hid h
  obtain ⟨wb, hwb⟩ : ∃ wb, wb = w.alloc (.cells #[.int .i64 s, .int .i64 d, .int .i64 hz, .slice ea en ec, .slice ma mn mc, .slice oa on oc] 26) := ⟨_, rfl⟩
  have bb : Below w.heap.size w wb := by rw [hwb]; exact (Below.refl _ _).alloc (Nat.le_refl _) _
  have ga : wb.heap[w.heap.size]? = some (.cells #[.int .i64 s, .int .i64 d, .int .i64 hz, .slice ea en ec, .slice ma mn mc, .slice oa on oc] 26 (0, 0)) := by rw [hwb]; exact heap_alloc_new _ _
  have HBB := Lib.hid bb
  have HWB := Lib.hid (show w.alloc (.cells #[.int .i64 s, .int .i64 d, .int .i64 hz, .slice ea en ec, .slice ma mn mc, .slice oa on oc] 26) = wb from hwb.symm)
  have m0 : wb.cell? ⟨w.heap.size, 0, none⟩ = some (.int .i64 s) := cell_blk ga rfl
  have m1 : wb.cell? ⟨w.heap.size, 1, none⟩ = some (.int .i64 d) := cell_blk ga rfl
  have m2 : wb.cell? ⟨w.heap.size, 2, none⟩ = some (.int .i64 hz) := cell_blk ga rfl
  have m3 : wb.cell? ⟨w.heap.size, 3, none⟩ = some (.slice ea en ec) := cell_blk ga rfl
  have m4 : wb.cell? ⟨w.heap.size, 4, none⟩ = some (.slice ma mn mc) := cell_blk ga rfl
  have m5 : wb.cell? ⟨w.heap.size, 5, none⟩ = some (.slice oa on oc) := cell_blk ga rfl
  clear hwb bb ga h
  go_enter Tryz.func5, Tryz.ntmps5
  by_cases b1 : (en : Int) > 300
  · go_wp2_with fail
    first | go_ret | (rw [HWB.out]; go_wp2_with fail; go_ret)
    exact ⟨⟨_, rfl⟩, by first | exact HBB.out | (rw [HWB.out]; exact HBB.out)⟩
  by_cases b2 : (mn : Int) > 100
  · go_wp2_with fail
    first | go_ret | (rw [HWB.out]; go_wp2_with fail; go_ret)
    exact ⟨⟨_, rfl⟩, by first | exact HBB.out | (rw [HWB.out]; exact HBB.out)⟩
  by_cases b3 : (on : Int) > 20
  · go_wp2_with fail
    first | go_ret | (rw [HWB.out]; go_wp2_with fail; go_ret)
    exact ⟨⟨_, rfl⟩, by first | exact HBB.out | (rw [HWB.out]; exact HBB.out)⟩
  go_wp2_with fail
  rw [HWB.out]
  clear m0 m1 m2 m3 m4 m5 b2 b3
  go_loopw [4, 24] (fun _ s24 wr => ∃ k : Nat, k ≤ en ∧ s24 = .int .i64 (k : Int) ∧ Hid (Below wb.heap.size wb wr)) (fun _ s24 _ => en - (intOf s24).toNat)
  case atStart => exact ⟨0, by omega, rfl, Lib.hid (Below.refl _ _)⟩
  case round =>
    obtain ⟨k, hk, rfl, HB⟩ := hrel
    rename World => wr
    by_cases hkn : k < en
    · have hki : (k : Int) < (en : Int) := by omega
      obtain ⟨sb, so, rfl, hsl, _, hsc9⟩ := (HH.out.kept (HBB.out.trans (HB.out.mono HBB.out.size))).get hkn
      generalize l.getD k EntS.z = sx at hsc9
      obtain ⟨x0, x1, x2, x3, x4, x5, x6, x7, x8⟩ := sx
      have d0 : wr.cell? ⟨sb, so + k * 9, none⟩ = some (.string x0) := hsc9 0 _ rfl
      have d1 : wr.cell? ⟨sb, so + k * 9 + 1, none⟩ = some (.int .i64 x1) := hsc9 1 _ rfl
      have d2 : wr.cell? ⟨sb, so + k * 9 + 2, none⟩ = some (.string x2) := hsc9 2 _ rfl
      have d3 : wr.cell? ⟨sb, so + k * 9 + 3, none⟩ = some (.int .i64 x3) := hsc9 3 _ rfl
      have d4 : wr.cell? ⟨sb, so + k * 9 + 4, none⟩ = some (.int .i64 x4) := hsc9 4 _ rfl
      have d5 : wr.cell? ⟨sb, so + k * 9 + 5, none⟩ = some (.int .i64 x5) := hsc9 5 _ rfl
      have d6 : wr.cell? ⟨sb, so + k * 9 + 6, none⟩ = some (.int .i64 x6) := hsc9 6 _ rfl
      have d7 : wr.cell? ⟨sb, so + k * 9 + 7, none⟩ = some (.int .u32 x7) := hsc9 7 _ rfl
      have d8 : wr.cell? ⟨sb, so + k * 9 + 8, none⟩ = some (.int .i64 x8) := hsc9 8 _ rfl
      have HAL := Lib.hid (show Below wb.heap.size wb (wr.alloc (.cells #[.string x0, .int .i64 x1, .string x2, .int .i64 x3, .int .i64 x4, .int .i64 x5, .int .i64 x6, .int .u32 x7, .int .i64 x8] 33)) from HB.out.alloc HB.out.size _)
      have HE := Lib.hid (show Below w.heap.size w (wr.alloc (.cells #[.string x0, .int .i64 x1, .string x2, .int .i64 x3, .int .i64 x4, .int .i64 x5, .int .i64 x6, .int .u32 x7, .int .i64 x8] 33)) from HBB.out.trans (HAL.out.mono HBB.out.size))
      clear hsc9 hsl
      by_cases q1 : (x0.size : Int) > 100
      · go_wp2_with fail
        go_ret
        exact ⟨⟨_, rfl⟩, HE.out⟩
      by_cases q2 : (x2.size : Int) > 1200
      · go_wp2_with fail
        go_ret
        exact ⟨⟨_, rfl⟩, HE.out⟩
      go_wp2_with fail
      go_roundw
      case rel => exact ⟨k + 1, by omega, by go_num, HAL⟩
      case measure => simp [intOf]; omega
    · obtain rfl : en = k := by omega
      have HE := Lib.hid (HBB.out.trans (HB.out.mono HBB.out.size))
      clear hkn
      go_wp2_with fail
      go_ret
      exact ⟨⟨_, rfl⟩, HE.out⟩

set_option maxRecDepth 100000 in
set_option maxHeartbeats 16000000 in
theorem finds_any {w : World} {s d hz : Int} {ea ma oa : Option Addr} {en ec mn mc on oc : Nat} {le : List EntV} {lm : List (Int × Int)} {lo : List (Int × Int × Int)} (hE : VecAt EntS w ea en ec le) (hM : VecAt MarkS w ma mn mc lm) (hO : VecAt OwnS w oa on oc lo) (x : Int) (key : ByteArray) (o0 o1 o2 : Int) :
    Calls Tryz.prog 3 #[.agg #[.int .i64 s, .int .i64 d, .int .i64 hz, .slice ea en ec, .slice ma mn mc, .slice oa on oc], .int .i64 x, .string key, .agg #[.int .i64 o0, .int .i64 o1, .int .i64 o2]] w fun e w' => e = .returned (.bool true) ∧ Below w.heap.size w w' := by
  have hcap := hE.cap
  have hcm := hE.capm
  have HVE := Lib.hid hE
  have HVM := Lib.hid hM
  have HVO := Lib.hid hO
  obtain ⟨q, hq⟩ : ∃ q, q = ((lm.find? fun y => decide (y.1 = x)).getD (0, 0)).2 := ⟨_, rfl⟩
  obtain ⟨dd, hdd⟩ : ∃ dd, dd = lo.any (didp o0 o1 o2) := ⟨_, rfl⟩
  have HQ := Lib.hid hq
  have HD := Lib.hid hdd
  obtain ⟨wa, hwa⟩ : ∃ wa, wa = w.alloc (.cells #[.int .i64 s, .int .i64 d, .int .i64 hz, .slice ea en ec, .slice ma mn mc, .slice oa on oc] 26) := ⟨_, rfl⟩
  obtain ⟨wb, hwb⟩ : ∃ wb, wb = wa.alloc (.cells #[.int .i64 o0, .int .i64 o1, .int .i64 o2] 28) := ⟨_, rfl⟩
  have sa : wa.heap.size = w.heap.size + 1 := by rw [hwa]; exact Array.size_push _
  have ba : Below w.heap.size w wa := by rw [hwa]; exact (Below.refl _ _).alloc (Nat.le_refl _) _
  have bb : Below w.heap.size w wb := by rw [hwb]; exact ba.alloc ba.size _
  have gb : wb.heap[w.heap.size + 1]? = some (.cells #[.int .i64 o0, .int .i64 o1, .int .i64 o2] 28 (0, 0)) := by rw [hwb, ← sa]; exact heap_alloc_new _ _
  have ga : wb.heap[w.heap.size]? = some (.cells #[.int .i64 s, .int .i64 d, .int .i64 hz, .slice ea en ec, .slice ma mn mc, .slice oa on oc] 26 (0, 0)) := by rw [hwb, heap_alloc_old _ _ _ (by omega), hwa]; exact heap_alloc_new _ _
  have HBB := Lib.hid bb
  have HGA := Lib.hid ga
  have HGB := Lib.hid gb
  have HWB := Lib.hid (show (w.alloc (.cells #[.int .i64 s, .int .i64 d, .int .i64 hz, .slice ea en ec, .slice ma mn mc, .slice oa on oc] 26)).alloc (.cells #[.int .i64 o0, .int .i64 o1, .int .i64 o2] 28) = wb from by rw [hwb, hwa])
  clear hE hM hO hq hdd hwa hwb sa ba bb gb ga
  go_enter Tryz.func3, Tryz.ntmps3
  go_wp2_with fail
  rw [HWB.out]
  refine (lives_true wb).mono ?_
  rintro e w1 ⟨rfl, hb1⟩
  have HB1 := Lib.hid (HBB.out.trans (hb1.mono HBB.out.size))
  have HGA1 := Lib.hid ((hb1.block w.heap.size (Array.getElem?_eq_some_iff.1 HGA.out).1).trans HGA.out)
  have HGB1 := Lib.hid ((hb1.block (w.heap.size + 1) (Array.getElem?_eq_some_iff.1 HGB.out).1).trans HGB.out)
  have m0 : w1.cell? ⟨w.heap.size, 0, none⟩ = some (.int .i64 s) := cell_blk HGA1.out rfl
  have m1 : w1.cell? ⟨w.heap.size, 1, none⟩ = some (.int .i64 d) := cell_blk HGA1.out rfl
  have m2 : w1.cell? ⟨w.heap.size, 2, none⟩ = some (.int .i64 hz) := cell_blk HGA1.out rfl
  have m3 : w1.cell? ⟨w.heap.size, 3, none⟩ = some (.slice ea en ec) := cell_blk HGA1.out rfl
  have m4 : w1.cell? ⟨w.heap.size, 4, none⟩ = some (.slice ma mn mc) := cell_blk HGA1.out rfl
  have m5 : w1.cell? ⟨w.heap.size, 5, none⟩ = some (.slice oa on oc) := cell_blk HGA1.out rfl
  have HFW := Lib.hid (few_any (s := s) (d := d) (hz := hz) (ma := ma) (mn := mn) (mc := mc) (oa := oa) (on := on) (oc := oc) (HVE.out.kept HB1.out))
  clear hb1
  go_wp2_with fail
  refine HFW.out.mono ?_
  rintro e w2 ⟨⟨b, rfl⟩, hb2⟩
  have HB2 := Lib.hid (HB1.out.trans (hb2.mono HB1.out.size))
  have HGA2 := Lib.hid ((hb2.block w.heap.size (Array.getElem?_eq_some_iff.1 HGA1.out).1).trans HGA1.out)
  have HGB2 := Lib.hid ((hb2.block (w.heap.size + 1) (Array.getElem?_eq_some_iff.1 HGB1.out).1).trans HGB1.out)
  clear hb2 m0 m1 m2 m3 m4 m5
  cases b with
  | false =>
    go_wp2_with fail
    refine (lives_true w2).mono ?_
    rintro e w3 ⟨rfl, hb3⟩
    have HB3 := Lib.hid (HB2.out.trans (hb3.mono HB2.out.size))
    clear hb3
    go_wp2_with fail
    go_ret
    exact ⟨rfl, HB3.out⟩
  | true =>
  by_cases hks : (key.size : Int) > 100
  · go_wp2_with fail
    refine (lives_true w2).mono ?_
    rintro e w3 ⟨rfl, hb3⟩
    have HB3 := Lib.hid (HB2.out.trans (hb3.mono HB2.out.size))
    clear hb3
    go_wp2_with fail
    go_ret
    exact ⟨rfl, HB3.out⟩
  have m0 : w2.cell? ⟨w.heap.size, 0, none⟩ = some (.int .i64 s) := cell_blk HGA2.out rfl
  have m1 : w2.cell? ⟨w.heap.size, 1, none⟩ = some (.int .i64 d) := cell_blk HGA2.out rfl
  have m2 : w2.cell? ⟨w.heap.size, 2, none⟩ = some (.int .i64 hz) := cell_blk HGA2.out rfl
  have m3 : w2.cell? ⟨w.heap.size, 3, none⟩ = some (.slice ea en ec) := cell_blk HGA2.out rfl
  have m4 : w2.cell? ⟨w.heap.size, 4, none⟩ = some (.slice ma mn mc) := cell_blk HGA2.out rfl
  have m5 : w2.cell? ⟨w.heap.size, 5, none⟩ = some (.slice oa on oc) := cell_blk HGA2.out rfl
  have HFD := Lib.hid (find_any (s := s) (d := d) (hz := hz) (ma := ma) (mn := mn) (mc := mc) (oa := oa) (on := on) (oc := oc) (HVE.out.kept HB2.out) key)
  go_wp2_with fail
  clear m0 m1 m2 m3 m4 m5
  refine HFD.out.mono ?_
  rintro e w4 ⟨hl, hb4⟩
  obtain ⟨fr, hfr⟩ : ∃ fr, fr = le.find? (fun y => decide (y.key = key)) := ⟨_, rfl⟩
  have HFR := Lib.hid hfr
  have HB4 := Lib.hid (HB2.out.trans (hb4.mono HB2.out.size))
  have HGA4 := Lib.hid ((hb4.block w.heap.size (Array.getElem?_eq_some_iff.1 HGA2.out).1).trans HGA2.out)
  have HGB4 := Lib.hid ((hb4.block (w.heap.size + 1) (Array.getElem?_eq_some_iff.1 HGB2.out).1).trans HGB2.out)
  have hl4 : w.heap.size < w4.heap.size := (Array.getElem?_eq_some_iff.1 HGA4.out).1
  unfold LkE at hl
  rw [← hfr] at hl
  clear hfr hb4
  cases fr with
  | some xf =>
    obtain ⟨x0, x1, x2, x3, x4, x5, x6, x7, x8⟩ := xf
    obtain rfl : e = .returned (.tuple #[.agg #[.string x0, .int .i64 x1, .string x2, .int .i64 x3, .int .i64 x4, .int .i64 x5, .int .i64 x6, .int .u32 x7, .int .i64 x8], .bool true]) := hl
    obtain ⟨w4b, hw4b⟩ : ∃ w4b, w4b = w4.alloc (.cells #[.string x0, .int .i64 x1, .string x2, .int .i64 x3, .int .i64 x4, .int .i64 x5, .int .i64 x6, .int .u32 x7, .int .i64 x8] 33) := ⟨_, rfl⟩
    have hb4b : Below w4.heap.size w4 w4b := by rw [hw4b]; exact (Below.refl _ _).alloc (Nat.le_refl _) _
    have hg9 : w4b.heap[w4.heap.size]? = some (.cells #[.string x0, .int .i64 x1, .string x2, .int .i64 x3, .int .i64 x4, .int .i64 x5, .int .i64 x6, .int .u32 x7, .int .i64 x8] 33 (0, 0)) := by rw [hw4b]; exact heap_alloc_new _ _
    have HG9 := Lib.hid hg9
    have HB4b := Lib.hid (HB4.out.trans (hb4b.mono HB4.out.size))
    have HGA4b := Lib.hid ((hb4b.block w.heap.size (Array.getElem?_eq_some_iff.1 HGA4.out).1).trans HGA4.out)
    have HGB4b := Lib.hid ((hb4b.block (w.heap.size + 1) (Array.getElem?_eq_some_iff.1 HGB4.out).1).trans HGB4.out)
    have HW4b := Lib.hid hw4b
    have HRF := Lib.hid (refFind_any (s := s) (d := d) (hz := hz) (ma := ma) (mn := mn) (mc := mc) (oa := oa) (on := on) (oc := oc) (HVE.out.kept HB4b.out) key)
    have m0 : w4.cell? ⟨w.heap.size, 0, none⟩ = some (.int .i64 s) := cell_blk HGA4.out rfl
    have m1 : w4.cell? ⟨w.heap.size, 1, none⟩ = some (.int .i64 d) := cell_blk HGA4.out rfl
    have m2 : w4.cell? ⟨w.heap.size, 2, none⟩ = some (.int .i64 hz) := cell_blk HGA4.out rfl
    have m3 : w4.cell? ⟨w.heap.size, 3, none⟩ = some (.slice ea en ec) := cell_blk HGA4.out rfl
    have m4 : w4.cell? ⟨w.heap.size, 4, none⟩ = some (.slice ma mn mc) := cell_blk HGA4.out rfl
    have m5 : w4.cell? ⟨w.heap.size, 5, none⟩ = some (.slice oa on oc) := cell_blk HGA4.out rfl
    clear hw4b hb4b hg9
    go_wp2_with fail
    rw [← HW4b.out]
    clear m0 m1 m2 m3 m4 m5 hl4
    refine HRF.out.mono ?_
    rintro e w5 ⟨hf5, hb5⟩
    obtain ⟨z, rfl, hz5⟩ := hf5
    rw [← HFR.out] at hz5
    have HB5 := Lib.hid (HB4b.out.trans (hb5.mono HB4b.out.size))
    have HM4 := Lib.hid ((hb5.block w.heap.size (Array.getElem?_eq_some_iff.1 HGA4b.out).1).trans HGA4b.out)
    have HO7 := Lib.hid ((hb5.block (w.heap.size + 1) (Array.getElem?_eq_some_iff.1 HGB4b.out).1).trans HGB4b.out)
    have HT9 := Lib.hid ((hb5.block w4.heap.size (Array.getElem?_eq_some_iff.1 HG9.out).1).trans HG9.out)
    have HM4L := Lib.hid (Array.getElem?_eq_some_iff.1 HM4.out).1
    have HO7L := Lib.hid (Array.getElem?_eq_some_iff.1 HO7.out).1
    have HT9L := Lib.hid (Array.getElem?_eq_some_iff.1 HT9.out).1
    clear hb5
    obtain ⟨k, rfl, hkn, hke⟩ : ∃ k : Nat, z = (k : Int) ∧ k < en ∧ (⟨x0, x1, x2, x3, x4, x5, x6, x7, x8⟩ : EntV) = le.getD k EntS.z := by
      rcases hz5 with ⟨k, h1, h2, h3⟩ | ⟨_, h3⟩
      · exact ⟨k, h1, h2, Option.some.inj h3⟩
      · cases h3
    have hki : (k : Int) < (en : Int) := by omega
    obtain ⟨sb, so, rfl, hsl, _, hsc9⟩ := (HVE.out.kept HB5.out).get hkn
    rw [← hke] at hsc9
    have HSL := Lib.hid hsl
    have HSC := Lib.hid hsc9
    clear hsl hsc9 hke hz5
    go_wp2_with fail
    refine wp_region_fill (by kernel_rfl) (by kernel_rfl) (by kernel_rfl) (Below w5.heap.size w5) (FV (fun j_9 => match j_9 with | 0 => some (.bool true) | 1 => some (.int .i64 (k : Int)) | 2 => some (.bool true) | 3 => some (.bool false) | 4 => some (.bool false) | 5 => some (.bool true) | 6 => some (.bool true) | 7 => some (.agg #[.string x0, .int .i64 x1, .string x2, .int .i64 x3, .int .i64 x4, .int .i64 x5, .int .i64 x6, .int .u32 x7, .int .i64 x8]) | 8 => some (.pointer (some ⟨w.heap.size, 3, none⟩)) | 9 => some (.slice (some ⟨sb, so, none⟩) en ec) | 10 => some (.int .i64 (k : Int)) | 11 => some (.pointer (some ⟨sb, so + k * 9, none⟩)) | 12 => some (.agg #[.string x0, .int .i64 x1, .string x2, .int .i64 x3, .int .i64 x4, .int .i64 x5, .int .i64 x6, .int .u32 x7, .int .i64 x8]) | 13 => some (.bool false) | 14 => some (.bool false) | 15 => some (.bool false) | 16 => some (.bool false) | 17 => some (.bool true) | 18 => some (.bool false) | 19 => some (.bool false) | 20 => some (undef) | 21 => some (undef) | 22 => some (undef) | 23 => some (.bool false) | 24 => some (.bool false) | _ => none) (fun _ _ => True)) (Below.refl _ _).drew ?_ ?_
    · intro i9 o ho V w9 K hJ hdep hK
      have HJ := Lib.hid hJ
      simp only [fill, slotOf, List.size_toArray, List.length_cons, List.length_nil, Nat.reduceAdd, List.getElem?_toArray, List.getElem?_cons_zero, List.getElem?_cons_succ, Option.bind_some, Act.put, List.setIfInBounds_toArray, List.set_cons_zero, List.set_cons_succ] at hK ⊢
      have hin : i9 < 25 := (Array.getElem?_eq_some_iff.1 ho).1
      have hcs : i9 = 0 ∨ i9 = 1 ∨ i9 = 2 ∨ i9 = 3 ∨ i9 = 4 ∨ i9 = 5 ∨ i9 = 6 ∨ i9 = 7 ∨ i9 = 8 ∨ i9 = 9 ∨ i9 = 10 ∨ i9 = 11 ∨ i9 = 12 ∨ i9 = 13 ∨ i9 = 14 ∨ i9 = 15 ∨ i9 = 16 ∨ i9 = 17 ∨ i9 = 18 ∨ i9 = 19 ∨ i9 = 20 ∨ i9 = 21 ∨ i9 = 22 ∨ i9 = 23 ∨ i9 = 24 := by omega
      clear hin
      rcases hcs with rfl | rfl | rfl | rfl | rfl | rfl | rfl | rfl | rfl | rfl | rfl | rfl | rfl | rfl | rfl | rfl | rfl | rfl | rfl | rfl | rfl | rfl | rfl | rfl | rfl
      · obtain rfl := Option.some.inj ho.symm
        clear hdep ho hJ
        try simp only [fill, slotOf, List.size_toArray, List.length_cons, List.length_nil, Nat.reduceAdd, List.getElem?_toArray, List.getElem?_cons_zero, List.getElem?_cons_succ, Option.bind_some, Act.put, List.setIfInBounds_toArray, List.set_cons_zero, List.set_cons_succ] at hK ⊢
        go_simp
        exact hK (.bool true) _ HJ.out rfl (fun j y h => h) _ rfl
      · obtain rfl := Option.some.inj ho.symm
        clear hdep ho hJ
        try simp only [fill, slotOf, List.size_toArray, List.length_cons, List.length_nil, Nat.reduceAdd, List.getElem?_toArray, List.getElem?_cons_zero, List.getElem?_cons_succ, Option.bind_some, Act.put, List.setIfInBounds_toArray, List.set_cons_zero, List.set_cons_succ] at hK ⊢
        go_simp
        exact hK (.int .i64 (k : Int)) _ HJ.out rfl (fun j y h => h) _ rfl
      · obtain rfl := Option.some.inj ho.symm
        have d1 : V 1 = .int .i64 (k : Int) := hdep ⟨1, .data⟩ (by simp) rfl
        have hge : decide ((k : Int) ≥ 0) = true := decide_eq_true (by omega)
        clear hdep ho hJ
        try simp only [fill, slotOf, List.size_toArray, List.length_cons, List.length_nil, Nat.reduceAdd, List.getElem?_toArray, List.getElem?_cons_zero, List.getElem?_cons_succ, Option.bind_some, Act.put, List.setIfInBounds_toArray, List.set_cons_zero, List.set_cons_succ] at hK ⊢
        rw [d1] at hK ⊢
        go_simp
        exact hK (.bool true) _ HJ.out rfl (fun j y h => h) _ rfl
      · obtain rfl := Option.some.inj ho.symm
        have d0 : V 0 = .bool true := hdep ⟨0, .data⟩ (by simp) rfl
        have d2 : V 2 = .bool true := hdep ⟨2, .data⟩ (by simp) rfl
        clear hdep ho hJ
        try simp only [fill, slotOf, List.size_toArray, List.length_cons, List.length_nil, Nat.reduceAdd, List.getElem?_toArray, List.getElem?_cons_zero, List.getElem?_cons_succ, Option.bind_some, Act.put, List.setIfInBounds_toArray, List.set_cons_zero, List.set_cons_succ] at hK ⊢
        rw [d0, d2] at hK ⊢
        go_simp
        exact hK (.bool false) _ HJ.out rfl (fun j y h => h) _ rfl
      · obtain rfl := Option.some.inj ho.symm
        have d3 : V 3 = .bool false := hdep ⟨3, .data⟩ (by simp) rfl
        clear hdep ho hJ
        try simp only [fill, slotOf, List.size_toArray, List.length_cons, List.length_nil, Nat.reduceAdd, List.getElem?_toArray, List.getElem?_cons_zero, List.getElem?_cons_succ, Option.bind_some, Act.put, List.setIfInBounds_toArray, List.set_cons_zero, List.set_cons_succ] at hK ⊢
        rw [d3] at hK ⊢
        go_simp
        exact hK (.bool false) _ HJ.out rfl (fun j y h => h) _ rfl
      · obtain rfl := Option.some.inj ho.symm
        have d4 : V 4 = .bool false := hdep ⟨4, .guard⟩ (by simp) rfl
        clear hdep ho hJ
        try simp only [fill, slotOf, List.size_toArray, List.length_cons, List.length_nil, Nat.reduceAdd, List.getElem?_toArray, List.getElem?_cons_zero, List.getElem?_cons_succ, Option.bind_some, Act.put, List.setIfInBounds_toArray, List.set_cons_zero, List.set_cons_succ] at hK ⊢
        rw [d4] at hK ⊢
        go_simp
        exact hK (.bool true) _ HJ.out rfl (fun j y h => h) _ rfl
      · obtain rfl := Option.some.inj ho.symm
        have d5 : V 5 = .bool true := hdep ⟨5, .data⟩ (by simp) rfl
        have d4 : V 4 = .bool false := hdep ⟨4, .guard⟩ (by simp) rfl
        clear hdep ho hJ
        try simp only [fill, slotOf, List.size_toArray, List.length_cons, List.length_nil, Nat.reduceAdd, List.getElem?_toArray, List.getElem?_cons_zero, List.getElem?_cons_succ, Option.bind_some, Act.put, List.setIfInBounds_toArray, List.set_cons_zero, List.set_cons_succ] at hK ⊢
        rw [d5, d4] at hK ⊢
        go_simp
        exact hK (.bool true) _ HJ.out rfl (fun j y h => h) _ rfl
      · obtain rfl := Option.some.inj ho.symm
        have d6 : V 6 = .bool true := hdep ⟨6, .guard⟩ (by simp) rfl
        have n0 : w9.cell? ⟨w4.heap.size, 0, none⟩ = some (.string x0) := (hJ.cell (p := ⟨w4.heap.size, 0, none⟩) HT9L.out).trans (cell_blk HT9.out rfl)
        have n1 : w9.cell? ⟨w4.heap.size, 1, none⟩ = some (.int .i64 x1) := (hJ.cell (p := ⟨w4.heap.size, 1, none⟩) HT9L.out).trans (cell_blk HT9.out rfl)
        have n2 : w9.cell? ⟨w4.heap.size, 2, none⟩ = some (.string x2) := (hJ.cell (p := ⟨w4.heap.size, 2, none⟩) HT9L.out).trans (cell_blk HT9.out rfl)
        have n3 : w9.cell? ⟨w4.heap.size, 3, none⟩ = some (.int .i64 x3) := (hJ.cell (p := ⟨w4.heap.size, 3, none⟩) HT9L.out).trans (cell_blk HT9.out rfl)
        have n4 : w9.cell? ⟨w4.heap.size, 4, none⟩ = some (.int .i64 x4) := (hJ.cell (p := ⟨w4.heap.size, 4, none⟩) HT9L.out).trans (cell_blk HT9.out rfl)
        have n5 : w9.cell? ⟨w4.heap.size, 5, none⟩ = some (.int .i64 x5) := (hJ.cell (p := ⟨w4.heap.size, 5, none⟩) HT9L.out).trans (cell_blk HT9.out rfl)
        have n6 : w9.cell? ⟨w4.heap.size, 6, none⟩ = some (.int .i64 x6) := (hJ.cell (p := ⟨w4.heap.size, 6, none⟩) HT9L.out).trans (cell_blk HT9.out rfl)
        have n7 : w9.cell? ⟨w4.heap.size, 7, none⟩ = some (.int .u32 x7) := (hJ.cell (p := ⟨w4.heap.size, 7, none⟩) HT9L.out).trans (cell_blk HT9.out rfl)
        have n8 : w9.cell? ⟨w4.heap.size, 8, none⟩ = some (.int .i64 x8) := (hJ.cell (p := ⟨w4.heap.size, 8, none⟩) HT9L.out).trans (cell_blk HT9.out rfl)
        clear hdep ho hJ
        try simp only [fill, slotOf, List.size_toArray, List.length_cons, List.length_nil, Nat.reduceAdd, List.getElem?_toArray, List.getElem?_cons_zero, List.getElem?_cons_succ, Option.bind_some, Act.put, List.setIfInBounds_toArray, List.set_cons_zero, List.set_cons_succ] at hK ⊢
        rw [d6] at hK ⊢
        go_simp
        exact hK (.agg #[.string x0, .int .i64 x1, .string x2, .int .i64 x3, .int .i64 x4, .int .i64 x5, .int .i64 x6, .int .u32 x7, .int .i64 x8]) _ HJ.out rfl (fun j y h => h) _ rfl
      · obtain rfl := Option.some.inj ho.symm
        have d6 : V 6 = .bool true := hdep ⟨6, .guard⟩ (by simp) rfl
        clear hdep ho hJ
        try simp only [fill, slotOf, List.size_toArray, List.length_cons, List.length_nil, Nat.reduceAdd, List.getElem?_toArray, List.getElem?_cons_zero, List.getElem?_cons_succ, Option.bind_some, Act.put, List.setIfInBounds_toArray, List.set_cons_zero, List.set_cons_succ] at hK ⊢
        rw [d6] at hK ⊢
        go_simp
        exact hK (.pointer (some ⟨w.heap.size, 3, none⟩)) _ HJ.out rfl (fun j y h => h) _ rfl
      · obtain rfl := Option.some.inj ho.symm
        have d8 : V 8 = .pointer (some ⟨w.heap.size, 3, none⟩) := hdep ⟨8, .data⟩ (by simp) rfl
        have d6 : V 6 = .bool true := hdep ⟨6, .guard⟩ (by simp) rfl
        have m3 : w9.cell? ⟨w.heap.size, 3, none⟩ = some (.slice (some ⟨sb, so, none⟩) en ec) := (hJ.cell (p := ⟨w.heap.size, 3, none⟩) HM4L.out).trans (cell_blk HM4.out rfl)
        clear hdep ho hJ
        try simp only [fill, slotOf, List.size_toArray, List.length_cons, List.length_nil, Nat.reduceAdd, List.getElem?_toArray, List.getElem?_cons_zero, List.getElem?_cons_succ, Option.bind_some, Act.put, List.setIfInBounds_toArray, List.set_cons_zero, List.set_cons_succ] at hK ⊢
        rw [d8, d6] at hK ⊢
        go_simp
        exact hK (.slice (some ⟨sb, so, none⟩) en ec) _ HJ.out rfl (fun j y h => h) _ rfl
      · obtain rfl := Option.some.inj ho.symm
        have d6 : V 6 = .bool true := hdep ⟨6, .guard⟩ (by simp) rfl
        clear hdep ho hJ
        try simp only [fill, slotOf, List.size_toArray, List.length_cons, List.length_nil, Nat.reduceAdd, List.getElem?_toArray, List.getElem?_cons_zero, List.getElem?_cons_succ, Option.bind_some, Act.put, List.setIfInBounds_toArray, List.set_cons_zero, List.set_cons_succ] at hK ⊢
        rw [d6] at hK ⊢
        go_simp
        exact hK (.int .i64 (k : Int)) _ HJ.out rfl (fun j y h => h) _ rfl
      · obtain rfl := Option.some.inj ho.symm
        have d9 : V 9 = .slice (some ⟨sb, so, none⟩) en ec := hdep ⟨9, .data⟩ (by simp) rfl
        have d10 : V 10 = .int .i64 (k : Int) := hdep ⟨10, .data⟩ (by simp) rfl
        have d6 : V 6 = .bool true := hdep ⟨6, .guard⟩ (by simp) rfl
        clear hdep ho hJ
        try simp only [fill, slotOf, List.size_toArray, List.length_cons, List.length_nil, Nat.reduceAdd, List.getElem?_toArray, List.getElem?_cons_zero, List.getElem?_cons_succ, Option.bind_some, Act.put, List.setIfInBounds_toArray, List.set_cons_zero, List.set_cons_succ] at hK ⊢
        rw [d9, d10, d6] at hK ⊢
        go_simp
        exact hK (.pointer (some ⟨sb, so + k * 9, none⟩)) _ HJ.out rfl (fun j y h => h) _ rfl
      · obtain rfl := Option.some.inj ho.symm
        have d11 : V 11 = .pointer (some ⟨sb, so + k * 9, none⟩) := hdep ⟨11, .data⟩ (by simp) rfl
        have d6 : V 6 = .bool true := hdep ⟨6, .guard⟩ (by simp) rfl
        have q0 : w9.cell? ⟨sb, so + k * 9, none⟩ = some (.string x0) := (hJ.cell (p := ⟨sb, so + k * 9 + 0, none⟩) HSL.out).trans (HSC.out 0 _ rfl)
        have q1 : w9.cell? ⟨sb, so + k * 9 + 1, none⟩ = some (.int .i64 x1) := (hJ.cell (p := ⟨sb, so + k * 9 + 1, none⟩) HSL.out).trans (HSC.out 1 _ rfl)
        have q2 : w9.cell? ⟨sb, so + k * 9 + 2, none⟩ = some (.string x2) := (hJ.cell (p := ⟨sb, so + k * 9 + 2, none⟩) HSL.out).trans (HSC.out 2 _ rfl)
        have q3 : w9.cell? ⟨sb, so + k * 9 + 3, none⟩ = some (.int .i64 x3) := (hJ.cell (p := ⟨sb, so + k * 9 + 3, none⟩) HSL.out).trans (HSC.out 3 _ rfl)
        have q4 : w9.cell? ⟨sb, so + k * 9 + 4, none⟩ = some (.int .i64 x4) := (hJ.cell (p := ⟨sb, so + k * 9 + 4, none⟩) HSL.out).trans (HSC.out 4 _ rfl)
        have q5 : w9.cell? ⟨sb, so + k * 9 + 5, none⟩ = some (.int .i64 x5) := (hJ.cell (p := ⟨sb, so + k * 9 + 5, none⟩) HSL.out).trans (HSC.out 5 _ rfl)
        have q6 : w9.cell? ⟨sb, so + k * 9 + 6, none⟩ = some (.int .i64 x6) := (hJ.cell (p := ⟨sb, so + k * 9 + 6, none⟩) HSL.out).trans (HSC.out 6 _ rfl)
        have q7 : w9.cell? ⟨sb, so + k * 9 + 7, none⟩ = some (.int .u32 x7) := (hJ.cell (p := ⟨sb, so + k * 9 + 7, none⟩) HSL.out).trans (HSC.out 7 _ rfl)
        have q8 : w9.cell? ⟨sb, so + k * 9 + 8, none⟩ = some (.int .i64 x8) := (hJ.cell (p := ⟨sb, so + k * 9 + 8, none⟩) HSL.out).trans (HSC.out 8 _ rfl)
        clear hdep ho hJ
        try simp only [fill, slotOf, List.size_toArray, List.length_cons, List.length_nil, Nat.reduceAdd, List.getElem?_toArray, List.getElem?_cons_zero, List.getElem?_cons_succ, Option.bind_some, Act.put, List.setIfInBounds_toArray, List.set_cons_zero, List.set_cons_succ] at hK ⊢
        rw [d11, d6] at hK ⊢
        go_simp
        exact hK (.agg #[.string x0, .int .i64 x1, .string x2, .int .i64 x3, .int .i64 x4, .int .i64 x5, .int .i64 x6, .int .u32 x7, .int .i64 x8]) _ HJ.out rfl (fun j y h => h) _ rfl
      · obtain rfl := Option.some.inj ho.symm
        have d7 : V 7 = .agg #[.string x0, .int .i64 x1, .string x2, .int .i64 x3, .int .i64 x4, .int .i64 x5, .int .i64 x6, .int .u32 x7, .int .i64 x8] := hdep ⟨7, .data⟩ (by simp) rfl
        have d12 : V 12 = .agg #[.string x0, .int .i64 x1, .string x2, .int .i64 x3, .int .i64 x4, .int .i64 x5, .int .i64 x6, .int .u32 x7, .int .i64 x8] := hdep ⟨12, .data⟩ (by simp) rfl
        have d6 : V 6 = .bool true := hdep ⟨6, .guard⟩ (by simp) rfl
        clear hdep ho hJ
        try simp only [fill, slotOf, List.size_toArray, List.length_cons, List.length_nil, Nat.reduceAdd, List.getElem?_toArray, List.getElem?_cons_zero, List.getElem?_cons_succ, Option.bind_some, Act.put, List.setIfInBounds_toArray, List.set_cons_zero, List.set_cons_succ] at hK ⊢
        rw [d7, d12, d6] at hK ⊢
        go_simp
        exact hK (.bool false) _ HJ.out rfl (fun j y h => h) _ rfl
      · obtain rfl := Option.some.inj ho.symm
        have d6 : V 6 = .bool true := hdep ⟨6, .data⟩ (by simp) rfl
        have d13 : V 13 = .bool false := hdep ⟨13, .data⟩ (by simp) rfl
        have d4 : V 4 = .bool false := hdep ⟨4, .guard⟩ (by simp) rfl
        clear hdep ho hJ
        try simp only [fill, slotOf, List.size_toArray, List.length_cons, List.length_nil, Nat.reduceAdd, List.getElem?_toArray, List.getElem?_cons_zero, List.getElem?_cons_succ, Option.bind_some, Act.put, List.setIfInBounds_toArray, List.set_cons_zero, List.set_cons_succ] at hK ⊢
        rw [d6, d13, d4] at hK ⊢
        go_simp
        exact hK (.bool false) _ HJ.out rfl (fun j y h => h) _ rfl
      · obtain rfl := Option.some.inj ho.symm
        have d4 : V 4 = .bool false := hdep ⟨4, .data⟩ (by simp) rfl
        have d14 : V 14 = .bool false := hdep ⟨14, .data⟩ (by simp) rfl
        clear hdep ho hJ
        try simp only [fill, slotOf, List.size_toArray, List.length_cons, List.length_nil, Nat.reduceAdd, List.getElem?_toArray, List.getElem?_cons_zero, List.getElem?_cons_succ, Option.bind_some, Act.put, List.setIfInBounds_toArray, List.set_cons_zero, List.set_cons_succ] at hK ⊢
        rw [d4, d14] at hK ⊢
        go_simp
        exact hK (.bool false) _ HJ.out rfl (fun j y h => h) _ rfl
      · obtain rfl := Option.some.inj ho.symm
        have d15 : V 15 = .bool false := hdep ⟨15, .data⟩ (by simp) rfl
        clear hdep ho hJ
        try simp only [fill, slotOf, List.size_toArray, List.length_cons, List.length_nil, Nat.reduceAdd, List.getElem?_toArray, List.getElem?_cons_zero, List.getElem?_cons_succ, Option.bind_some, Act.put, List.setIfInBounds_toArray, List.set_cons_zero, List.set_cons_succ] at hK ⊢
        rw [d15] at hK ⊢
        go_simp
        exact hK (.bool false) _ HJ.out rfl (fun j y h => h) _ rfl
      · obtain rfl := Option.some.inj ho.symm
        have d16 : V 16 = .bool false := hdep ⟨16, .guard⟩ (by simp) rfl
        clear hdep ho hJ
        try simp only [fill, slotOf, List.size_toArray, List.length_cons, List.length_nil, Nat.reduceAdd, List.getElem?_toArray, List.getElem?_cons_zero, List.getElem?_cons_succ, Option.bind_some, Act.put, List.setIfInBounds_toArray, List.set_cons_zero, List.set_cons_succ] at hK ⊢
        rw [d16] at hK ⊢
        go_simp
        exact hK (.bool true) _ HJ.out rfl (fun j y h => h) _ rfl
      · obtain rfl := Option.some.inj ho.symm
        have d17 : V 17 = .bool true := hdep ⟨17, .data⟩ (by simp) rfl
        have d16 : V 16 = .bool false := hdep ⟨16, .guard⟩ (by simp) rfl
        clear hdep ho hJ
        try simp only [fill, slotOf, List.size_toArray, List.length_cons, List.length_nil, Nat.reduceAdd, List.getElem?_toArray, List.getElem?_cons_zero, List.getElem?_cons_succ, Option.bind_some, Act.put, List.setIfInBounds_toArray, List.set_cons_zero, List.set_cons_succ] at hK ⊢
        rw [d17, d16] at hK ⊢
        go_simp
        exact hK (.bool false) _ HJ.out rfl (fun j y h => h) _ rfl
      · obtain rfl := Option.some.inj ho.symm
        have d18 : V 18 = .bool false := hdep ⟨18, .data⟩ (by simp) rfl
        have d16 : V 16 = .bool false := hdep ⟨16, .guard⟩ (by simp) rfl
        clear hdep ho hJ
        try simp only [fill, slotOf, List.size_toArray, List.length_cons, List.length_nil, Nat.reduceAdd, List.getElem?_toArray, List.getElem?_cons_zero, List.getElem?_cons_succ, Option.bind_some, Act.put, List.setIfInBounds_toArray, List.set_cons_zero, List.set_cons_succ] at hK ⊢
        rw [d18, d16] at hK ⊢
        go_simp
        exact hK (.bool false) _ HJ.out rfl (fun j y h => h) _ rfl
      · obtain rfl := Option.some.inj ho.symm
        have d19 : V 19 = .bool false := hdep ⟨19, .guard⟩ (by simp) rfl
        clear hdep ho hJ
        try simp only [fill, slotOf, List.size_toArray, List.length_cons, List.length_nil, Nat.reduceAdd, List.getElem?_toArray, List.getElem?_cons_zero, List.getElem?_cons_succ, Option.bind_some, Act.put, List.setIfInBounds_toArray, List.set_cons_zero, List.set_cons_succ] at hK ⊢
        rw [d19] at hK ⊢
        go_simp
        exact hK (undef) _ HJ.out rfl (fun j y h => h) _ rfl
      · obtain rfl := Option.some.inj ho.symm
        have d19 : V 19 = .bool false := hdep ⟨19, .guard⟩ (by simp) rfl
        clear hdep ho hJ
        try simp only [fill, slotOf, List.size_toArray, List.length_cons, List.length_nil, Nat.reduceAdd, List.getElem?_toArray, List.getElem?_cons_zero, List.getElem?_cons_succ, Option.bind_some, Act.put, List.setIfInBounds_toArray, List.set_cons_zero, List.set_cons_succ] at hK ⊢
        rw [d19] at hK ⊢
        go_simp
        exact hK (undef) _ HJ.out rfl (fun j y h => h) _ rfl
      · obtain rfl := Option.some.inj ho.symm
        have d19 : V 19 = .bool false := hdep ⟨19, .guard⟩ (by simp) rfl
        clear hdep ho hJ
        try simp only [fill, slotOf, List.size_toArray, List.length_cons, List.length_nil, Nat.reduceAdd, List.getElem?_toArray, List.getElem?_cons_zero, List.getElem?_cons_succ, Option.bind_some, Act.put, List.setIfInBounds_toArray, List.set_cons_zero, List.set_cons_succ] at hK ⊢
        rw [d19] at hK ⊢
        go_simp
        exact hK (undef) _ HJ.out rfl (fun j y h => h) _ rfl
      · obtain rfl := Option.some.inj ho.symm
        have d19 : V 19 = .bool false := hdep ⟨19, .data⟩ (by simp) rfl
        have d16 : V 16 = .bool false := hdep ⟨16, .guard⟩ (by simp) rfl
        clear hdep ho hJ
        try simp only [fill, slotOf, List.size_toArray, List.length_cons, List.length_nil, Nat.reduceAdd, List.getElem?_toArray, List.getElem?_cons_zero, List.getElem?_cons_succ, Option.bind_some, Act.put, List.setIfInBounds_toArray, List.set_cons_zero, List.set_cons_succ] at hK ⊢
        rw [d19, d16] at hK ⊢
        go_simp
        exact hK (.bool false) _ HJ.out rfl (fun j y h => h) _ rfl
      · obtain rfl := Option.some.inj ho.symm
        have d16 : V 16 = .bool false := hdep ⟨16, .data⟩ (by simp) rfl
        have d23 : V 23 = .bool false := hdep ⟨23, .data⟩ (by simp) rfl
        clear hdep ho hJ
        try simp only [fill, slotOf, List.size_toArray, List.length_cons, List.length_nil, Nat.reduceAdd, List.getElem?_toArray, List.getElem?_cons_zero, List.getElem?_cons_succ, Option.bind_some, Act.put, List.setIfInBounds_toArray, List.set_cons_zero, List.set_cons_succ] at hK ⊢
        rw [d16, d23] at hK ⊢
        go_simp
        exact hK (.bool false) _ HJ.out rfl (fun j y h => h) _ rfl
    · intro V w9 hJ hall
      have dL : V 24 = .bool false := hall 24 (by decide)
      have HJ9 := Lib.hid hJ
      clear hall hJ
      simp only [fill, slotOf, List.size_toArray, List.length_cons, List.length_nil, Nat.reduceAdd, List.getElem?_toArray, List.getElem?_cons_zero, List.getElem?_cons_succ, Option.bind_some, Act.put, List.setIfInBounds_toArray, List.set_cons_zero, List.set_cons_succ]
      rw [dL]
      clear dL
      have HBW := Lib.hid (HB5.out.trans (HJ9.out.mono HB5.out.size))
      have HM4 := Lib.hid ((HJ9.out.block w.heap.size HM4L.out).trans HM4.out)
      have HO7 := Lib.hid ((HJ9.out.block (w.heap.size + 1) HO7L.out).trans HO7.out)
      have HM4L := Lib.hid (Array.getElem?_eq_some_iff.1 HM4.out).1
      have HO7L := Lib.hid (Array.getElem?_eq_some_iff.1 HO7.out).1
      have HMK := Lib.hid (show ∀ W9, Below w9.heap.size w9 W9 → Calls Tryz.prog 8 #[.agg #[.int .i64 s, .int .i64 d, .int .i64 hz, .slice (some ⟨sb, so, none⟩) en ec, .slice ma mn mc, .slice oa on oc], .int .i64 x] W9 fun e w' => e = .returned (.int .i64 q) ∧ Below W9.heap.size W9 w' from fun W9 hB => by rw [HQ.out]; exact mark_any ((HVM.out.kept HBW.out).kept hB) x)
      have HSQ := Lib.hid (show ∀ W9, Below w9.heap.size w9 W9 → Calls Tryz.prog 9 #[.agg #[.int .i64 s, .int .i64 d, .int .i64 hz, .slice (some ⟨sb, so, none⟩) en ec, .slice ma mn mc, .slice oa on oc], .int .i64 x] W9 fun e w' => e = .returned (.int .i64 q) ∧ Below W9.heap.size W9 w' from fun W9 hB => by rw [HQ.out]; exact refSeq_any ((HVM.out.kept HBW.out).kept hB) x)
      have HDD := Lib.hid (show ∀ W9, Below w9.heap.size w9 W9 → Calls Tryz.prog 10 #[.agg #[.int .i64 s, .int .i64 d, .int .i64 hz, .slice (some ⟨sb, so, none⟩) en ec, .slice ma mn mc, .slice oa on oc], .agg #[.int .i64 o0, .int .i64 o1, .int .i64 o2]] W9 fun e w' => e = .returned (.bool dd) ∧ Below W9.heap.size W9 w' from fun W9 hB => by rw [HD.out]; exact did_any ((HVO.out.kept HBW.out).kept hB) o0 o1 o2)
      have HRD := Lib.hid (show ∀ W9, Below w9.heap.size w9 W9 → Calls Tryz.prog 11 #[.agg #[.int .i64 s, .int .i64 d, .int .i64 hz, .slice (some ⟨sb, so, none⟩) en ec, .slice ma mn mc, .slice oa on oc], .agg #[.int .i64 o0, .int .i64 o1, .int .i64 o2]] W9 fun e w' => e = .returned (.bool dd) ∧ Below W9.heap.size W9 w' from fun W9 hB => by rw [HD.out]; exact refDid_any ((HVO.out.kept HBW.out).kept hB) o0 o1 o2)
      clear HJ9
      go_wp2_with fail
      refine wp_region_fill (by kernel_rfl) (by kernel_rfl) (by kernel_rfl) (Below w9.heap.size w9) (FV (fun j_9 => match j_9 with | 0 => some (.agg #[.int .i64 s, .int .i64 d, .int .i64 hz, .slice (some ⟨sb, so, none⟩) en ec, .slice ma mn mc, .slice oa on oc]) | 1 => some (.int .i64 x) | 2 => some (.int .i64 q) | 3 => some (.agg #[.int .i64 s, .int .i64 d, .int .i64 hz, .slice (some ⟨sb, so, none⟩) en ec, .slice ma mn mc, .slice oa on oc]) | 4 => some (.int .i64 x) | 5 => some (.int .i64 q) | 6 => some (.bool true) | 7 => some (.bool true) | 8 => some (.agg #[.int .i64 s, .int .i64 d, .int .i64 hz, .slice (some ⟨sb, so, none⟩) en ec, .slice ma mn mc, .slice oa on oc]) | 9 => some (.agg #[.int .i64 o0, .int .i64 o1, .int .i64 o2]) | 10 => some (.bool dd) | 11 => some (.agg #[.int .i64 s, .int .i64 d, .int .i64 hz, .slice (some ⟨sb, so, none⟩) en ec, .slice ma mn mc, .slice oa on oc]) | 12 => some (.agg #[.int .i64 o0, .int .i64 o1, .int .i64 o2]) | 13 => some (.bool dd) | 14 => some (.bool true) | 15 => some (.bool true) | 16 => some (.bool true) | _ => none) (fun _ _ => True)) (Below.refl _ _).drew ?_ ?_
      · intro i9 o ho V w9 K hJ hdep hK
        have HJ := Lib.hid hJ
        simp only [fill, slotOf, List.size_toArray, List.length_cons, List.length_nil, Nat.reduceAdd, List.getElem?_toArray, List.getElem?_cons_zero, List.getElem?_cons_succ, Option.bind_some, Act.put, List.setIfInBounds_toArray, List.set_cons_zero, List.set_cons_succ] at hK ⊢
        have hin : i9 < 17 := (Array.getElem?_eq_some_iff.1 ho).1
        have hcs : i9 = 0 ∨ i9 = 1 ∨ i9 = 2 ∨ i9 = 3 ∨ i9 = 4 ∨ i9 = 5 ∨ i9 = 6 ∨ i9 = 7 ∨ i9 = 8 ∨ i9 = 9 ∨ i9 = 10 ∨ i9 = 11 ∨ i9 = 12 ∨ i9 = 13 ∨ i9 = 14 ∨ i9 = 15 ∨ i9 = 16 := by omega
        clear hin
        rcases hcs with rfl | rfl | rfl | rfl | rfl | rfl | rfl | rfl | rfl | rfl | rfl | rfl | rfl | rfl | rfl | rfl | rfl
        · obtain rfl := Option.some.inj ho.symm
          have m0 : w9.cell? ⟨w.heap.size, 0, none⟩ = some (.int .i64 s) := (hJ.cell (p := ⟨w.heap.size, 0, none⟩) HM4L.out).trans (cell_blk HM4.out rfl)
          have m1 : w9.cell? ⟨w.heap.size, 1, none⟩ = some (.int .i64 d) := (hJ.cell (p := ⟨w.heap.size, 1, none⟩) HM4L.out).trans (cell_blk HM4.out rfl)
          have m2 : w9.cell? ⟨w.heap.size, 2, none⟩ = some (.int .i64 hz) := (hJ.cell (p := ⟨w.heap.size, 2, none⟩) HM4L.out).trans (cell_blk HM4.out rfl)
          have m3 : w9.cell? ⟨w.heap.size, 3, none⟩ = some (.slice (some ⟨sb, so, none⟩) en ec) := (hJ.cell (p := ⟨w.heap.size, 3, none⟩) HM4L.out).trans (cell_blk HM4.out rfl)
          have m4 : w9.cell? ⟨w.heap.size, 4, none⟩ = some (.slice ma mn mc) := (hJ.cell (p := ⟨w.heap.size, 4, none⟩) HM4L.out).trans (cell_blk HM4.out rfl)
          have m5 : w9.cell? ⟨w.heap.size, 5, none⟩ = some (.slice oa on oc) := (hJ.cell (p := ⟨w.heap.size, 5, none⟩) HM4L.out).trans (cell_blk HM4.out rfl)
          clear hdep ho hJ
          try simp only [fill, slotOf, List.size_toArray, List.length_cons, List.length_nil, Nat.reduceAdd, List.getElem?_toArray, List.getElem?_cons_zero, List.getElem?_cons_succ, Option.bind_some, Act.put, List.setIfInBounds_toArray, List.set_cons_zero, List.set_cons_succ] at hK ⊢
          go_simp
          exact hK (.agg #[.int .i64 s, .int .i64 d, .int .i64 hz, .slice (some ⟨sb, so, none⟩) en ec, .slice ma mn mc, .slice oa on oc]) _ HJ.out rfl (fun j y h => h) _ rfl
        · obtain rfl := Option.some.inj ho.symm
          clear hdep ho hJ
          try simp only [fill, slotOf, List.size_toArray, List.length_cons, List.length_nil, Nat.reduceAdd, List.getElem?_toArray, List.getElem?_cons_zero, List.getElem?_cons_succ, Option.bind_some, Act.put, List.setIfInBounds_toArray, List.set_cons_zero, List.set_cons_succ] at hK ⊢
          go_simp
          exact hK (.int .i64 x) _ HJ.out rfl (fun j y h => h) _ rfl
        · obtain rfl := Option.some.inj ho.symm
          have d0 : V 0 = .agg #[.int .i64 s, .int .i64 d, .int .i64 hz, .slice (some ⟨sb, so, none⟩) en ec, .slice ma mn mc, .slice oa on oc] := hdep ⟨0, .data⟩ (by simp) rfl
          have d1 : V 1 = .int .i64 x := hdep ⟨1, .data⟩ (by simp) rfl
          clear hdep ho hJ
          try simp only [fill, slotOf, List.size_toArray, List.length_cons, List.length_nil, Nat.reduceAdd, List.getElem?_toArray, List.getElem?_cons_zero, List.getElem?_cons_succ, Option.bind_some, Act.put, List.setIfInBounds_toArray, List.set_cons_zero, List.set_cons_succ] at hK ⊢
          rw [d0, d1] at hK ⊢
          go_simp
          refine (HMK.out w9 HJ.out).mono ?_
          rintro e w8 ⟨rfl, hb8⟩
          exact hK (.int .i64 q) _ (HJ.out.trans (hb8.mono HJ.out.size)) rfl (FV.mono ((fun _ _ _ => trivial) hb8)) _ rfl
        · obtain rfl := Option.some.inj ho.symm
          have m0 : w9.cell? ⟨w.heap.size, 0, none⟩ = some (.int .i64 s) := (hJ.cell (p := ⟨w.heap.size, 0, none⟩) HM4L.out).trans (cell_blk HM4.out rfl)
          have m1 : w9.cell? ⟨w.heap.size, 1, none⟩ = some (.int .i64 d) := (hJ.cell (p := ⟨w.heap.size, 1, none⟩) HM4L.out).trans (cell_blk HM4.out rfl)
          have m2 : w9.cell? ⟨w.heap.size, 2, none⟩ = some (.int .i64 hz) := (hJ.cell (p := ⟨w.heap.size, 2, none⟩) HM4L.out).trans (cell_blk HM4.out rfl)
          have m3 : w9.cell? ⟨w.heap.size, 3, none⟩ = some (.slice (some ⟨sb, so, none⟩) en ec) := (hJ.cell (p := ⟨w.heap.size, 3, none⟩) HM4L.out).trans (cell_blk HM4.out rfl)
          have m4 : w9.cell? ⟨w.heap.size, 4, none⟩ = some (.slice ma mn mc) := (hJ.cell (p := ⟨w.heap.size, 4, none⟩) HM4L.out).trans (cell_blk HM4.out rfl)
          have m5 : w9.cell? ⟨w.heap.size, 5, none⟩ = some (.slice oa on oc) := (hJ.cell (p := ⟨w.heap.size, 5, none⟩) HM4L.out).trans (cell_blk HM4.out rfl)
          clear hdep ho hJ
          try simp only [fill, slotOf, List.size_toArray, List.length_cons, List.length_nil, Nat.reduceAdd, List.getElem?_toArray, List.getElem?_cons_zero, List.getElem?_cons_succ, Option.bind_some, Act.put, List.setIfInBounds_toArray, List.set_cons_zero, List.set_cons_succ] at hK ⊢
          go_simp
          exact hK (.agg #[.int .i64 s, .int .i64 d, .int .i64 hz, .slice (some ⟨sb, so, none⟩) en ec, .slice ma mn mc, .slice oa on oc]) _ HJ.out rfl (fun j y h => h) _ rfl
        · obtain rfl := Option.some.inj ho.symm
          clear hdep ho hJ
          try simp only [fill, slotOf, List.size_toArray, List.length_cons, List.length_nil, Nat.reduceAdd, List.getElem?_toArray, List.getElem?_cons_zero, List.getElem?_cons_succ, Option.bind_some, Act.put, List.setIfInBounds_toArray, List.set_cons_zero, List.set_cons_succ] at hK ⊢
          go_simp
          exact hK (.int .i64 x) _ HJ.out rfl (fun j y h => h) _ rfl
        · obtain rfl := Option.some.inj ho.symm
          have d3 : V 3 = .agg #[.int .i64 s, .int .i64 d, .int .i64 hz, .slice (some ⟨sb, so, none⟩) en ec, .slice ma mn mc, .slice oa on oc] := hdep ⟨3, .data⟩ (by simp) rfl
          have d4 : V 4 = .int .i64 x := hdep ⟨4, .data⟩ (by simp) rfl
          clear hdep ho hJ
          try simp only [fill, slotOf, List.size_toArray, List.length_cons, List.length_nil, Nat.reduceAdd, List.getElem?_toArray, List.getElem?_cons_zero, List.getElem?_cons_succ, Option.bind_some, Act.put, List.setIfInBounds_toArray, List.set_cons_zero, List.set_cons_succ] at hK ⊢
          rw [d3, d4] at hK ⊢
          go_simp
          refine (HSQ.out w9 HJ.out).mono ?_
          rintro e w8 ⟨rfl, hb8⟩
          exact hK (.int .i64 q) _ (HJ.out.trans (hb8.mono HJ.out.size)) rfl (FV.mono ((fun _ _ _ => trivial) hb8)) _ rfl
        · obtain rfl := Option.some.inj ho.symm
          have d2 : V 2 = .int .i64 q := hdep ⟨2, .data⟩ (by simp) rfl
          have d5 : V 5 = .int .i64 q := hdep ⟨5, .data⟩ (by simp) rfl
          clear hdep ho hJ
          try simp only [fill, slotOf, List.size_toArray, List.length_cons, List.length_nil, Nat.reduceAdd, List.getElem?_toArray, List.getElem?_cons_zero, List.getElem?_cons_succ, Option.bind_some, Act.put, List.setIfInBounds_toArray, List.set_cons_zero, List.set_cons_succ] at hK ⊢
          rw [d2, d5] at hK ⊢
          go_simp
          exact hK (.bool true) _ HJ.out rfl (fun j y h => h) _ rfl
        · obtain rfl := Option.some.inj ho.symm
          have d6 : V 6 = .bool true := hdep ⟨6, .data⟩ (by simp) rfl
          clear hdep ho hJ
          try simp only [fill, slotOf, List.size_toArray, List.length_cons, List.length_nil, Nat.reduceAdd, List.getElem?_toArray, List.getElem?_cons_zero, List.getElem?_cons_succ, Option.bind_some, Act.put, List.setIfInBounds_toArray, List.set_cons_zero, List.set_cons_succ] at hK ⊢
          rw [d6] at hK ⊢
          go_simp
          exact hK (.bool true) _ HJ.out rfl (fun j y h => h) _ rfl
        · obtain rfl := Option.some.inj ho.symm
          have d7 : V 7 = .bool true := hdep ⟨7, .guard⟩ (by simp) rfl
          have m0 : w9.cell? ⟨w.heap.size, 0, none⟩ = some (.int .i64 s) := (hJ.cell (p := ⟨w.heap.size, 0, none⟩) HM4L.out).trans (cell_blk HM4.out rfl)
          have m1 : w9.cell? ⟨w.heap.size, 1, none⟩ = some (.int .i64 d) := (hJ.cell (p := ⟨w.heap.size, 1, none⟩) HM4L.out).trans (cell_blk HM4.out rfl)
          have m2 : w9.cell? ⟨w.heap.size, 2, none⟩ = some (.int .i64 hz) := (hJ.cell (p := ⟨w.heap.size, 2, none⟩) HM4L.out).trans (cell_blk HM4.out rfl)
          have m3 : w9.cell? ⟨w.heap.size, 3, none⟩ = some (.slice (some ⟨sb, so, none⟩) en ec) := (hJ.cell (p := ⟨w.heap.size, 3, none⟩) HM4L.out).trans (cell_blk HM4.out rfl)
          have m4 : w9.cell? ⟨w.heap.size, 4, none⟩ = some (.slice ma mn mc) := (hJ.cell (p := ⟨w.heap.size, 4, none⟩) HM4L.out).trans (cell_blk HM4.out rfl)
          have m5 : w9.cell? ⟨w.heap.size, 5, none⟩ = some (.slice oa on oc) := (hJ.cell (p := ⟨w.heap.size, 5, none⟩) HM4L.out).trans (cell_blk HM4.out rfl)
          clear hdep ho hJ
          try simp only [fill, slotOf, List.size_toArray, List.length_cons, List.length_nil, Nat.reduceAdd, List.getElem?_toArray, List.getElem?_cons_zero, List.getElem?_cons_succ, Option.bind_some, Act.put, List.setIfInBounds_toArray, List.set_cons_zero, List.set_cons_succ] at hK ⊢
          rw [d7] at hK ⊢
          go_simp
          exact hK (.agg #[.int .i64 s, .int .i64 d, .int .i64 hz, .slice (some ⟨sb, so, none⟩) en ec, .slice ma mn mc, .slice oa on oc]) _ HJ.out rfl (fun j y h => h) _ rfl
        · obtain rfl := Option.some.inj ho.symm
          have d7 : V 7 = .bool true := hdep ⟨7, .guard⟩ (by simp) rfl
          have y0 : w9.cell? ⟨w.heap.size + 1, 0, none⟩ = some (.int .i64 o0) := (hJ.cell (p := ⟨w.heap.size + 1, 0, none⟩) HO7L.out).trans (cell_blk HO7.out rfl)
          have y1 : w9.cell? ⟨w.heap.size + 1, 1, none⟩ = some (.int .i64 o1) := (hJ.cell (p := ⟨w.heap.size + 1, 1, none⟩) HO7L.out).trans (cell_blk HO7.out rfl)
          have y2 : w9.cell? ⟨w.heap.size + 1, 2, none⟩ = some (.int .i64 o2) := (hJ.cell (p := ⟨w.heap.size + 1, 2, none⟩) HO7L.out).trans (cell_blk HO7.out rfl)
          clear hdep ho hJ
          try simp only [fill, slotOf, List.size_toArray, List.length_cons, List.length_nil, Nat.reduceAdd, List.getElem?_toArray, List.getElem?_cons_zero, List.getElem?_cons_succ, Option.bind_some, Act.put, List.setIfInBounds_toArray, List.set_cons_zero, List.set_cons_succ] at hK ⊢
          rw [d7] at hK ⊢
          go_simp
          exact hK (.agg #[.int .i64 o0, .int .i64 o1, .int .i64 o2]) _ HJ.out rfl (fun j y h => h) _ rfl
        · obtain rfl := Option.some.inj ho.symm
          have d8 : V 8 = .agg #[.int .i64 s, .int .i64 d, .int .i64 hz, .slice (some ⟨sb, so, none⟩) en ec, .slice ma mn mc, .slice oa on oc] := hdep ⟨8, .data⟩ (by simp) rfl
          have d9 : V 9 = .agg #[.int .i64 o0, .int .i64 o1, .int .i64 o2] := hdep ⟨9, .data⟩ (by simp) rfl
          have d7 : V 7 = .bool true := hdep ⟨7, .guard⟩ (by simp) rfl
          clear hdep ho hJ
          try simp only [fill, slotOf, List.size_toArray, List.length_cons, List.length_nil, Nat.reduceAdd, List.getElem?_toArray, List.getElem?_cons_zero, List.getElem?_cons_succ, Option.bind_some, Act.put, List.setIfInBounds_toArray, List.set_cons_zero, List.set_cons_succ] at hK ⊢
          rw [d8, d9, d7] at hK ⊢
          go_simp
          refine (HDD.out w9 HJ.out).mono ?_
          rintro e w8 ⟨rfl, hb8⟩
          exact hK (.bool dd) _ (HJ.out.trans (hb8.mono HJ.out.size)) rfl (FV.mono ((fun _ _ _ => trivial) hb8)) _ rfl
        · obtain rfl := Option.some.inj ho.symm
          have d7 : V 7 = .bool true := hdep ⟨7, .guard⟩ (by simp) rfl
          have m0 : w9.cell? ⟨w.heap.size, 0, none⟩ = some (.int .i64 s) := (hJ.cell (p := ⟨w.heap.size, 0, none⟩) HM4L.out).trans (cell_blk HM4.out rfl)
          have m1 : w9.cell? ⟨w.heap.size, 1, none⟩ = some (.int .i64 d) := (hJ.cell (p := ⟨w.heap.size, 1, none⟩) HM4L.out).trans (cell_blk HM4.out rfl)
          have m2 : w9.cell? ⟨w.heap.size, 2, none⟩ = some (.int .i64 hz) := (hJ.cell (p := ⟨w.heap.size, 2, none⟩) HM4L.out).trans (cell_blk HM4.out rfl)
          have m3 : w9.cell? ⟨w.heap.size, 3, none⟩ = some (.slice (some ⟨sb, so, none⟩) en ec) := (hJ.cell (p := ⟨w.heap.size, 3, none⟩) HM4L.out).trans (cell_blk HM4.out rfl)
          have m4 : w9.cell? ⟨w.heap.size, 4, none⟩ = some (.slice ma mn mc) := (hJ.cell (p := ⟨w.heap.size, 4, none⟩) HM4L.out).trans (cell_blk HM4.out rfl)
          have m5 : w9.cell? ⟨w.heap.size, 5, none⟩ = some (.slice oa on oc) := (hJ.cell (p := ⟨w.heap.size, 5, none⟩) HM4L.out).trans (cell_blk HM4.out rfl)
          clear hdep ho hJ
          try simp only [fill, slotOf, List.size_toArray, List.length_cons, List.length_nil, Nat.reduceAdd, List.getElem?_toArray, List.getElem?_cons_zero, List.getElem?_cons_succ, Option.bind_some, Act.put, List.setIfInBounds_toArray, List.set_cons_zero, List.set_cons_succ] at hK ⊢
          rw [d7] at hK ⊢
          go_simp
          exact hK (.agg #[.int .i64 s, .int .i64 d, .int .i64 hz, .slice (some ⟨sb, so, none⟩) en ec, .slice ma mn mc, .slice oa on oc]) _ HJ.out rfl (fun j y h => h) _ rfl
        · obtain rfl := Option.some.inj ho.symm
          have d7 : V 7 = .bool true := hdep ⟨7, .guard⟩ (by simp) rfl
          have y0 : w9.cell? ⟨w.heap.size + 1, 0, none⟩ = some (.int .i64 o0) := (hJ.cell (p := ⟨w.heap.size + 1, 0, none⟩) HO7L.out).trans (cell_blk HO7.out rfl)
          have y1 : w9.cell? ⟨w.heap.size + 1, 1, none⟩ = some (.int .i64 o1) := (hJ.cell (p := ⟨w.heap.size + 1, 1, none⟩) HO7L.out).trans (cell_blk HO7.out rfl)
          have y2 : w9.cell? ⟨w.heap.size + 1, 2, none⟩ = some (.int .i64 o2) := (hJ.cell (p := ⟨w.heap.size + 1, 2, none⟩) HO7L.out).trans (cell_blk HO7.out rfl)
          clear hdep ho hJ
          try simp only [fill, slotOf, List.size_toArray, List.length_cons, List.length_nil, Nat.reduceAdd, List.getElem?_toArray, List.getElem?_cons_zero, List.getElem?_cons_succ, Option.bind_some, Act.put, List.setIfInBounds_toArray, List.set_cons_zero, List.set_cons_succ] at hK ⊢
          rw [d7] at hK ⊢
          go_simp
          exact hK (.agg #[.int .i64 o0, .int .i64 o1, .int .i64 o2]) _ HJ.out rfl (fun j y h => h) _ rfl
        · obtain rfl := Option.some.inj ho.symm
          have d11 : V 11 = .agg #[.int .i64 s, .int .i64 d, .int .i64 hz, .slice (some ⟨sb, so, none⟩) en ec, .slice ma mn mc, .slice oa on oc] := hdep ⟨11, .data⟩ (by simp) rfl
          have d12 : V 12 = .agg #[.int .i64 o0, .int .i64 o1, .int .i64 o2] := hdep ⟨12, .data⟩ (by simp) rfl
          have d7 : V 7 = .bool true := hdep ⟨7, .guard⟩ (by simp) rfl
          clear hdep ho hJ
          try simp only [fill, slotOf, List.size_toArray, List.length_cons, List.length_nil, Nat.reduceAdd, List.getElem?_toArray, List.getElem?_cons_zero, List.getElem?_cons_succ, Option.bind_some, Act.put, List.setIfInBounds_toArray, List.set_cons_zero, List.set_cons_succ] at hK ⊢
          rw [d11, d12, d7] at hK ⊢
          go_simp
          refine (HRD.out w9 HJ.out).mono ?_
          rintro e w8 ⟨rfl, hb8⟩
          exact hK (.bool dd) _ (HJ.out.trans (hb8.mono HJ.out.size)) rfl (FV.mono ((fun _ _ _ => trivial) hb8)) _ rfl
        · obtain rfl := Option.some.inj ho.symm
          have d10 : V 10 = .bool dd := hdep ⟨10, .data⟩ (by simp) rfl
          have d13 : V 13 = .bool dd := hdep ⟨13, .data⟩ (by simp) rfl
          have d7 : V 7 = .bool true := hdep ⟨7, .guard⟩ (by simp) rfl
          clear hdep ho hJ
          try simp only [fill, slotOf, List.size_toArray, List.length_cons, List.length_nil, Nat.reduceAdd, List.getElem?_toArray, List.getElem?_cons_zero, List.getElem?_cons_succ, Option.bind_some, Act.put, List.setIfInBounds_toArray, List.set_cons_zero, List.set_cons_succ] at hK ⊢
          rw [d10, d13, d7] at hK ⊢
          go_simp
          exact hK (.bool true) _ HJ.out rfl (fun j y h => h) _ rfl
        · obtain rfl := Option.some.inj ho.symm
          have d7 : V 7 = .bool true := hdep ⟨7, .data⟩ (by simp) rfl
          have d14 : V 14 = .bool true := hdep ⟨14, .data⟩ (by simp) rfl
          clear hdep ho hJ
          try simp only [fill, slotOf, List.size_toArray, List.length_cons, List.length_nil, Nat.reduceAdd, List.getElem?_toArray, List.getElem?_cons_zero, List.getElem?_cons_succ, Option.bind_some, Act.put, List.setIfInBounds_toArray, List.set_cons_zero, List.set_cons_succ] at hK ⊢
          rw [d7, d14] at hK ⊢
          go_simp
          exact hK (.bool true) _ HJ.out rfl (fun j y h => h) _ rfl
        · obtain rfl := Option.some.inj ho.symm
          have d15 : V 15 = .bool true := hdep ⟨15, .data⟩ (by simp) rfl
          clear hdep ho hJ
          try simp only [fill, slotOf, List.size_toArray, List.length_cons, List.length_nil, Nat.reduceAdd, List.getElem?_toArray, List.getElem?_cons_zero, List.getElem?_cons_succ, Option.bind_some, Act.put, List.setIfInBounds_toArray, List.set_cons_zero, List.set_cons_succ] at hK ⊢
          rw [d15] at hK ⊢
          go_simp
          exact hK (.bool true) _ HJ.out rfl (fun j y h => h) _ rfl
      · intro V w9 hJ hall
        have dL : V 16 = .bool true := hall 16 (by decide)
        have HJ9 := Lib.hid hJ
        clear hall hJ
        simp only [fill, slotOf, List.size_toArray, List.length_cons, List.length_nil, Nat.reduceAdd, List.getElem?_toArray, List.getElem?_cons_zero, List.getElem?_cons_succ, Option.bind_some, Act.put, List.setIfInBounds_toArray, List.set_cons_zero, List.set_cons_succ]
        rw [dL]
        clear dL
        have HBZ := Lib.hid (HBW.out.trans (HJ9.out.mono HBW.out.size))
        go_wp2_with fail
        go_ret
        exact ⟨rfl, HBZ.out⟩
  | none =>
    obtain rfl : e = .returned (.tuple #[.agg #[.string { data := #[] }, .int .i64 0, .string { data := #[] }, .int .i64 0, .int .i64 0, .int .i64 0, .int .i64 0, .int .u32 0, .int .i64 0], .bool false]) := hl
    obtain ⟨w4b, hw4b⟩ : ∃ w4b, w4b = w4.alloc (.cells #[.string { data := #[] }, .int .i64 0, .string { data := #[] }, .int .i64 0, .int .i64 0, .int .i64 0, .int .i64 0, .int .u32 0, .int .i64 0] 33) := ⟨_, rfl⟩
    have hb4b : Below w4.heap.size w4 w4b := by rw [hw4b]; exact (Below.refl _ _).alloc (Nat.le_refl _) _
    have hg9 : w4b.heap[w4.heap.size]? = some (.cells #[.string { data := #[] }, .int .i64 0, .string { data := #[] }, .int .i64 0, .int .i64 0, .int .i64 0, .int .i64 0, .int .u32 0, .int .i64 0] 33 (0, 0)) := by rw [hw4b]; exact heap_alloc_new _ _
    have HG9 := Lib.hid hg9
    have HB4b := Lib.hid (HB4.out.trans (hb4b.mono HB4.out.size))
    have HGA4b := Lib.hid ((hb4b.block w.heap.size (Array.getElem?_eq_some_iff.1 HGA4.out).1).trans HGA4.out)
    have HGB4b := Lib.hid ((hb4b.block (w.heap.size + 1) (Array.getElem?_eq_some_iff.1 HGB4.out).1).trans HGB4.out)
    have HW4b := Lib.hid hw4b
    have HRF := Lib.hid (refFind_any (s := s) (d := d) (hz := hz) (ma := ma) (mn := mn) (mc := mc) (oa := oa) (on := on) (oc := oc) (HVE.out.kept HB4b.out) key)
    have m0 : w4.cell? ⟨w.heap.size, 0, none⟩ = some (.int .i64 s) := cell_blk HGA4.out rfl
    have m1 : w4.cell? ⟨w.heap.size, 1, none⟩ = some (.int .i64 d) := cell_blk HGA4.out rfl
    have m2 : w4.cell? ⟨w.heap.size, 2, none⟩ = some (.int .i64 hz) := cell_blk HGA4.out rfl
    have m3 : w4.cell? ⟨w.heap.size, 3, none⟩ = some (.slice ea en ec) := cell_blk HGA4.out rfl
    have m4 : w4.cell? ⟨w.heap.size, 4, none⟩ = some (.slice ma mn mc) := cell_blk HGA4.out rfl
    have m5 : w4.cell? ⟨w.heap.size, 5, none⟩ = some (.slice oa on oc) := cell_blk HGA4.out rfl
    clear hw4b hb4b hg9
    go_wp2_with fail
    rw [← HW4b.out]
    clear m0 m1 m2 m3 m4 m5 hl4
    refine HRF.out.mono ?_
    rintro e w5 ⟨hf5, hb5⟩
    obtain ⟨z, rfl, hz5⟩ := hf5
    rw [← HFR.out] at hz5
    have HB5 := Lib.hid (HB4b.out.trans (hb5.mono HB4b.out.size))
    have HM4 := Lib.hid ((hb5.block w.heap.size (Array.getElem?_eq_some_iff.1 HGA4b.out).1).trans HGA4b.out)
    have HO7 := Lib.hid ((hb5.block (w.heap.size + 1) (Array.getElem?_eq_some_iff.1 HGB4b.out).1).trans HGB4b.out)
    have HT9 := Lib.hid ((hb5.block w4.heap.size (Array.getElem?_eq_some_iff.1 HG9.out).1).trans HG9.out)
    have HM4L := Lib.hid (Array.getElem?_eq_some_iff.1 HM4.out).1
    have HO7L := Lib.hid (Array.getElem?_eq_some_iff.1 HO7.out).1
    have HT9L := Lib.hid (Array.getElem?_eq_some_iff.1 HT9.out).1
    clear hb5
    obtain rfl : z = -1 := by
      rcases hz5 with ⟨k, h1, h2, h3⟩ | ⟨h1, _⟩
      · cases h3
      · exact h1
    clear hz5
    go_wp2_with fail
    refine wp_region_fill (by kernel_rfl) (by kernel_rfl) (by kernel_rfl) (Below w5.heap.size w5) (FV (fun j_9 => match j_9 with | 0 => some (.bool false) | 1 => some (.int .i64 (-1)) | 2 => some (.bool false) | 3 => some (.bool false) | 4 => some (.bool false) | 5 => some (.bool false) | 6 => some (.bool false) | 7 => some (undef) | 8 => some (undef) | 9 => some (undef) | 10 => some (undef) | 11 => some (undef) | 12 => some (undef) | 13 => some (undef) | 14 => some (.bool false) | 15 => some (.bool false) | 16 => some (.bool false) | 17 => some (.bool false) | 18 => some (.bool true) | 19 => some (.bool true) | 20 => some (.agg #[.string { data := #[] }, .int .i64 0, .string { data := #[] }, .int .i64 0, .int .i64 0, .int .i64 0, .int .i64 0, .int .u32 0, .int .i64 0]) | 21 => some (.agg #[.string { data := #[] }, .int .i64 0, .string { data := #[] }, .int .i64 0, .int .i64 0, .int .i64 0, .int .i64 0, .int .u32 0, .int .i64 0]) | 22 => some (.bool false) | 23 => some (.bool false) | 24 => some (.bool false) | _ => none) (fun _ _ => True)) (Below.refl _ _).drew ?_ ?_
    · intro i9 o ho V w9 K hJ hdep hK
      have HJ := Lib.hid hJ
      simp only [fill, slotOf, List.size_toArray, List.length_cons, List.length_nil, Nat.reduceAdd, List.getElem?_toArray, List.getElem?_cons_zero, List.getElem?_cons_succ, Option.bind_some, Act.put, List.setIfInBounds_toArray, List.set_cons_zero, List.set_cons_succ] at hK ⊢
      have hin : i9 < 25 := (Array.getElem?_eq_some_iff.1 ho).1
      have hcs : i9 = 0 ∨ i9 = 1 ∨ i9 = 2 ∨ i9 = 3 ∨ i9 = 4 ∨ i9 = 5 ∨ i9 = 6 ∨ i9 = 7 ∨ i9 = 8 ∨ i9 = 9 ∨ i9 = 10 ∨ i9 = 11 ∨ i9 = 12 ∨ i9 = 13 ∨ i9 = 14 ∨ i9 = 15 ∨ i9 = 16 ∨ i9 = 17 ∨ i9 = 18 ∨ i9 = 19 ∨ i9 = 20 ∨ i9 = 21 ∨ i9 = 22 ∨ i9 = 23 ∨ i9 = 24 := by omega
      clear hin
      rcases hcs with rfl | rfl | rfl | rfl | rfl | rfl | rfl | rfl | rfl | rfl | rfl | rfl | rfl | rfl | rfl | rfl | rfl | rfl | rfl | rfl | rfl | rfl | rfl | rfl | rfl
      · obtain rfl := Option.some.inj ho.symm
        clear hdep ho hJ
        try simp only [fill, slotOf, List.size_toArray, List.length_cons, List.length_nil, Nat.reduceAdd, List.getElem?_toArray, List.getElem?_cons_zero, List.getElem?_cons_succ, Option.bind_some, Act.put, List.setIfInBounds_toArray, List.set_cons_zero, List.set_cons_succ] at hK ⊢
        go_simp
        exact hK (.bool false) _ HJ.out rfl (fun j y h => h) _ rfl
      · obtain rfl := Option.some.inj ho.symm
        clear hdep ho hJ
        try simp only [fill, slotOf, List.size_toArray, List.length_cons, List.length_nil, Nat.reduceAdd, List.getElem?_toArray, List.getElem?_cons_zero, List.getElem?_cons_succ, Option.bind_some, Act.put, List.setIfInBounds_toArray, List.set_cons_zero, List.set_cons_succ] at hK ⊢
        go_simp
        exact hK (.int .i64 (-1)) _ HJ.out rfl (fun j y h => h) _ rfl
      · obtain rfl := Option.some.inj ho.symm
        have d1 : V 1 = .int .i64 (-1) := hdep ⟨1, .data⟩ (by simp) rfl
        clear hdep ho hJ
        try simp only [fill, slotOf, List.size_toArray, List.length_cons, List.length_nil, Nat.reduceAdd, List.getElem?_toArray, List.getElem?_cons_zero, List.getElem?_cons_succ, Option.bind_some, Act.put, List.setIfInBounds_toArray, List.set_cons_zero, List.set_cons_succ] at hK ⊢
        rw [d1] at hK ⊢
        go_simp
        exact hK (.bool false) _ HJ.out rfl (fun j y h => h) _ rfl
      · obtain rfl := Option.some.inj ho.symm
        have d0 : V 0 = .bool false := hdep ⟨0, .data⟩ (by simp) rfl
        have d2 : V 2 = .bool false := hdep ⟨2, .data⟩ (by simp) rfl
        clear hdep ho hJ
        try simp only [fill, slotOf, List.size_toArray, List.length_cons, List.length_nil, Nat.reduceAdd, List.getElem?_toArray, List.getElem?_cons_zero, List.getElem?_cons_succ, Option.bind_some, Act.put, List.setIfInBounds_toArray, List.set_cons_zero, List.set_cons_succ] at hK ⊢
        rw [d0, d2] at hK ⊢
        go_simp
        exact hK (.bool false) _ HJ.out rfl (fun j y h => h) _ rfl
      · obtain rfl := Option.some.inj ho.symm
        have d3 : V 3 = .bool false := hdep ⟨3, .data⟩ (by simp) rfl
        clear hdep ho hJ
        try simp only [fill, slotOf, List.size_toArray, List.length_cons, List.length_nil, Nat.reduceAdd, List.getElem?_toArray, List.getElem?_cons_zero, List.getElem?_cons_succ, Option.bind_some, Act.put, List.setIfInBounds_toArray, List.set_cons_zero, List.set_cons_succ] at hK ⊢
        rw [d3] at hK ⊢
        go_simp
        exact hK (.bool false) _ HJ.out rfl (fun j y h => h) _ rfl
      · obtain rfl := Option.some.inj ho.symm
        have d4 : V 4 = .bool false := hdep ⟨4, .guard⟩ (by simp) rfl
        clear hdep ho hJ
        try simp only [fill, slotOf, List.size_toArray, List.length_cons, List.length_nil, Nat.reduceAdd, List.getElem?_toArray, List.getElem?_cons_zero, List.getElem?_cons_succ, Option.bind_some, Act.put, List.setIfInBounds_toArray, List.set_cons_zero, List.set_cons_succ] at hK ⊢
        rw [d4] at hK ⊢
        go_simp
        exact hK (.bool false) _ HJ.out rfl (fun j y h => h) _ rfl
      · obtain rfl := Option.some.inj ho.symm
        have d5 : V 5 = .bool false := hdep ⟨5, .data⟩ (by simp) rfl
        have d4 : V 4 = .bool false := hdep ⟨4, .guard⟩ (by simp) rfl
        clear hdep ho hJ
        try simp only [fill, slotOf, List.size_toArray, List.length_cons, List.length_nil, Nat.reduceAdd, List.getElem?_toArray, List.getElem?_cons_zero, List.getElem?_cons_succ, Option.bind_some, Act.put, List.setIfInBounds_toArray, List.set_cons_zero, List.set_cons_succ] at hK ⊢
        rw [d5, d4] at hK ⊢
        go_simp
        exact hK (.bool false) _ HJ.out rfl (fun j y h => h) _ rfl
      · obtain rfl := Option.some.inj ho.symm
        have d6 : V 6 = .bool false := hdep ⟨6, .guard⟩ (by simp) rfl
        clear hdep ho hJ
        try simp only [fill, slotOf, List.size_toArray, List.length_cons, List.length_nil, Nat.reduceAdd, List.getElem?_toArray, List.getElem?_cons_zero, List.getElem?_cons_succ, Option.bind_some, Act.put, List.setIfInBounds_toArray, List.set_cons_zero, List.set_cons_succ] at hK ⊢
        rw [d6] at hK ⊢
        go_simp
        exact hK (undef) _ HJ.out rfl (fun j y h => h) _ rfl
      · obtain rfl := Option.some.inj ho.symm
        have d6 : V 6 = .bool false := hdep ⟨6, .guard⟩ (by simp) rfl
        clear hdep ho hJ
        try simp only [fill, slotOf, List.size_toArray, List.length_cons, List.length_nil, Nat.reduceAdd, List.getElem?_toArray, List.getElem?_cons_zero, List.getElem?_cons_succ, Option.bind_some, Act.put, List.setIfInBounds_toArray, List.set_cons_zero, List.set_cons_succ] at hK ⊢
        rw [d6] at hK ⊢
        go_simp
        exact hK (undef) _ HJ.out rfl (fun j y h => h) _ rfl
      · obtain rfl := Option.some.inj ho.symm
        have d6 : V 6 = .bool false := hdep ⟨6, .guard⟩ (by simp) rfl
        clear hdep ho hJ
        try simp only [fill, slotOf, List.size_toArray, List.length_cons, List.length_nil, Nat.reduceAdd, List.getElem?_toArray, List.getElem?_cons_zero, List.getElem?_cons_succ, Option.bind_some, Act.put, List.setIfInBounds_toArray, List.set_cons_zero, List.set_cons_succ] at hK ⊢
        rw [d6] at hK ⊢
        go_simp
        exact hK (undef) _ HJ.out rfl (fun j y h => h) _ rfl
      · obtain rfl := Option.some.inj ho.symm
        have d6 : V 6 = .bool false := hdep ⟨6, .guard⟩ (by simp) rfl
        clear hdep ho hJ
        try simp only [fill, slotOf, List.size_toArray, List.length_cons, List.length_nil, Nat.reduceAdd, List.getElem?_toArray, List.getElem?_cons_zero, List.getElem?_cons_succ, Option.bind_some, Act.put, List.setIfInBounds_toArray, List.set_cons_zero, List.set_cons_succ] at hK ⊢
        rw [d6] at hK ⊢
        go_simp
        exact hK (undef) _ HJ.out rfl (fun j y h => h) _ rfl
      · obtain rfl := Option.some.inj ho.symm
        have d6 : V 6 = .bool false := hdep ⟨6, .guard⟩ (by simp) rfl
        clear hdep ho hJ
        try simp only [fill, slotOf, List.size_toArray, List.length_cons, List.length_nil, Nat.reduceAdd, List.getElem?_toArray, List.getElem?_cons_zero, List.getElem?_cons_succ, Option.bind_some, Act.put, List.setIfInBounds_toArray, List.set_cons_zero, List.set_cons_succ] at hK ⊢
        rw [d6] at hK ⊢
        go_simp
        exact hK (undef) _ HJ.out rfl (fun j y h => h) _ rfl
      · obtain rfl := Option.some.inj ho.symm
        have d6 : V 6 = .bool false := hdep ⟨6, .guard⟩ (by simp) rfl
        clear hdep ho hJ
        try simp only [fill, slotOf, List.size_toArray, List.length_cons, List.length_nil, Nat.reduceAdd, List.getElem?_toArray, List.getElem?_cons_zero, List.getElem?_cons_succ, Option.bind_some, Act.put, List.setIfInBounds_toArray, List.set_cons_zero, List.set_cons_succ] at hK ⊢
        rw [d6] at hK ⊢
        go_simp
        exact hK (undef) _ HJ.out rfl (fun j y h => h) _ rfl
      · obtain rfl := Option.some.inj ho.symm
        have d6 : V 6 = .bool false := hdep ⟨6, .guard⟩ (by simp) rfl
        clear hdep ho hJ
        try simp only [fill, slotOf, List.size_toArray, List.length_cons, List.length_nil, Nat.reduceAdd, List.getElem?_toArray, List.getElem?_cons_zero, List.getElem?_cons_succ, Option.bind_some, Act.put, List.setIfInBounds_toArray, List.set_cons_zero, List.set_cons_succ] at hK ⊢
        rw [d6] at hK ⊢
        go_simp
        exact hK (undef) _ HJ.out rfl (fun j y h => h) _ rfl
      · obtain rfl := Option.some.inj ho.symm
        have d6 : V 6 = .bool false := hdep ⟨6, .data⟩ (by simp) rfl
        have d4 : V 4 = .bool false := hdep ⟨4, .guard⟩ (by simp) rfl
        clear hdep ho hJ
        try simp only [fill, slotOf, List.size_toArray, List.length_cons, List.length_nil, Nat.reduceAdd, List.getElem?_toArray, List.getElem?_cons_zero, List.getElem?_cons_succ, Option.bind_some, Act.put, List.setIfInBounds_toArray, List.set_cons_zero, List.set_cons_succ] at hK ⊢
        rw [d6, d4] at hK ⊢
        go_simp
        exact hK (.bool false) _ HJ.out rfl (fun j y h => h) _ rfl
      · obtain rfl := Option.some.inj ho.symm
        have d4 : V 4 = .bool false := hdep ⟨4, .data⟩ (by simp) rfl
        have d14 : V 14 = .bool false := hdep ⟨14, .data⟩ (by simp) rfl
        clear hdep ho hJ
        try simp only [fill, slotOf, List.size_toArray, List.length_cons, List.length_nil, Nat.reduceAdd, List.getElem?_toArray, List.getElem?_cons_zero, List.getElem?_cons_succ, Option.bind_some, Act.put, List.setIfInBounds_toArray, List.set_cons_zero, List.set_cons_succ] at hK ⊢
        rw [d4, d14] at hK ⊢
        go_simp
        exact hK (.bool false) _ HJ.out rfl (fun j y h => h) _ rfl
      · obtain rfl := Option.some.inj ho.symm
        have d15 : V 15 = .bool false := hdep ⟨15, .data⟩ (by simp) rfl
        clear hdep ho hJ
        try simp only [fill, slotOf, List.size_toArray, List.length_cons, List.length_nil, Nat.reduceAdd, List.getElem?_toArray, List.getElem?_cons_zero, List.getElem?_cons_succ, Option.bind_some, Act.put, List.setIfInBounds_toArray, List.set_cons_zero, List.set_cons_succ] at hK ⊢
        rw [d15] at hK ⊢
        go_simp
        exact hK (.bool false) _ HJ.out rfl (fun j y h => h) _ rfl
      · obtain rfl := Option.some.inj ho.symm
        have d16 : V 16 = .bool false := hdep ⟨16, .guard⟩ (by simp) rfl
        clear hdep ho hJ
        try simp only [fill, slotOf, List.size_toArray, List.length_cons, List.length_nil, Nat.reduceAdd, List.getElem?_toArray, List.getElem?_cons_zero, List.getElem?_cons_succ, Option.bind_some, Act.put, List.setIfInBounds_toArray, List.set_cons_zero, List.set_cons_succ] at hK ⊢
        rw [d16] at hK ⊢
        go_simp
        exact hK (.bool false) _ HJ.out rfl (fun j y h => h) _ rfl
      · obtain rfl := Option.some.inj ho.symm
        have d17 : V 17 = .bool false := hdep ⟨17, .data⟩ (by simp) rfl
        have d16 : V 16 = .bool false := hdep ⟨16, .guard⟩ (by simp) rfl
        clear hdep ho hJ
        try simp only [fill, slotOf, List.size_toArray, List.length_cons, List.length_nil, Nat.reduceAdd, List.getElem?_toArray, List.getElem?_cons_zero, List.getElem?_cons_succ, Option.bind_some, Act.put, List.setIfInBounds_toArray, List.set_cons_zero, List.set_cons_succ] at hK ⊢
        rw [d17, d16] at hK ⊢
        go_simp
        exact hK (.bool true) _ HJ.out rfl (fun j y h => h) _ rfl
      · obtain rfl := Option.some.inj ho.symm
        have d18 : V 18 = .bool true := hdep ⟨18, .data⟩ (by simp) rfl
        have d16 : V 16 = .bool false := hdep ⟨16, .guard⟩ (by simp) rfl
        clear hdep ho hJ
        try simp only [fill, slotOf, List.size_toArray, List.length_cons, List.length_nil, Nat.reduceAdd, List.getElem?_toArray, List.getElem?_cons_zero, List.getElem?_cons_succ, Option.bind_some, Act.put, List.setIfInBounds_toArray, List.set_cons_zero, List.set_cons_succ] at hK ⊢
        rw [d18, d16] at hK ⊢
        go_simp
        exact hK (.bool true) _ HJ.out rfl (fun j y h => h) _ rfl
      · obtain rfl := Option.some.inj ho.symm
        have d19 : V 19 = .bool true := hdep ⟨19, .guard⟩ (by simp) rfl
        have n0 : w9.cell? ⟨w4.heap.size, 0, none⟩ = some (.string { data := #[] }) := (hJ.cell (p := ⟨w4.heap.size, 0, none⟩) HT9L.out).trans (cell_blk HT9.out rfl)
        have n1 : w9.cell? ⟨w4.heap.size, 1, none⟩ = some (.int .i64 0) := (hJ.cell (p := ⟨w4.heap.size, 1, none⟩) HT9L.out).trans (cell_blk HT9.out rfl)
        have n2 : w9.cell? ⟨w4.heap.size, 2, none⟩ = some (.string { data := #[] }) := (hJ.cell (p := ⟨w4.heap.size, 2, none⟩) HT9L.out).trans (cell_blk HT9.out rfl)
        have n3 : w9.cell? ⟨w4.heap.size, 3, none⟩ = some (.int .i64 0) := (hJ.cell (p := ⟨w4.heap.size, 3, none⟩) HT9L.out).trans (cell_blk HT9.out rfl)
        have n4 : w9.cell? ⟨w4.heap.size, 4, none⟩ = some (.int .i64 0) := (hJ.cell (p := ⟨w4.heap.size, 4, none⟩) HT9L.out).trans (cell_blk HT9.out rfl)
        have n5 : w9.cell? ⟨w4.heap.size, 5, none⟩ = some (.int .i64 0) := (hJ.cell (p := ⟨w4.heap.size, 5, none⟩) HT9L.out).trans (cell_blk HT9.out rfl)
        have n6 : w9.cell? ⟨w4.heap.size, 6, none⟩ = some (.int .i64 0) := (hJ.cell (p := ⟨w4.heap.size, 6, none⟩) HT9L.out).trans (cell_blk HT9.out rfl)
        have n7 : w9.cell? ⟨w4.heap.size, 7, none⟩ = some (.int .u32 0) := (hJ.cell (p := ⟨w4.heap.size, 7, none⟩) HT9L.out).trans (cell_blk HT9.out rfl)
        have n8 : w9.cell? ⟨w4.heap.size, 8, none⟩ = some (.int .i64 0) := (hJ.cell (p := ⟨w4.heap.size, 8, none⟩) HT9L.out).trans (cell_blk HT9.out rfl)
        clear hdep ho hJ
        try simp only [fill, slotOf, List.size_toArray, List.length_cons, List.length_nil, Nat.reduceAdd, List.getElem?_toArray, List.getElem?_cons_zero, List.getElem?_cons_succ, Option.bind_some, Act.put, List.setIfInBounds_toArray, List.set_cons_zero, List.set_cons_succ] at hK ⊢
        rw [d19] at hK ⊢
        go_simp
        exact hK (.agg #[.string { data := #[] }, .int .i64 0, .string { data := #[] }, .int .i64 0, .int .i64 0, .int .i64 0, .int .i64 0, .int .u32 0, .int .i64 0]) _ HJ.out rfl (fun j y h => h) _ rfl
      · obtain rfl := Option.some.inj ho.symm
        have d19 : V 19 = .bool true := hdep ⟨19, .guard⟩ (by simp) rfl
        clear hdep ho hJ
        try simp only [fill, slotOf, List.size_toArray, List.length_cons, List.length_nil, Nat.reduceAdd, List.getElem?_toArray, List.getElem?_cons_zero, List.getElem?_cons_succ, Option.bind_some, Act.put, List.setIfInBounds_toArray, List.set_cons_zero, List.set_cons_succ] at hK ⊢
        rw [d19] at hK ⊢
        go_simp
        exact hK (.agg #[.string { data := #[] }, .int .i64 0, .string { data := #[] }, .int .i64 0, .int .i64 0, .int .i64 0, .int .i64 0, .int .u32 0, .int .i64 0]) _ HJ.out rfl (fun j y h => h) _ rfl
      · obtain rfl := Option.some.inj ho.symm
        have d20 : V 20 = .agg #[.string { data := #[] }, .int .i64 0, .string { data := #[] }, .int .i64 0, .int .i64 0, .int .i64 0, .int .i64 0, .int .u32 0, .int .i64 0] := hdep ⟨20, .data⟩ (by simp) rfl
        have d21 : V 21 = .agg #[.string { data := #[] }, .int .i64 0, .string { data := #[] }, .int .i64 0, .int .i64 0, .int .i64 0, .int .i64 0, .int .u32 0, .int .i64 0] := hdep ⟨21, .data⟩ (by simp) rfl
        have d19 : V 19 = .bool true := hdep ⟨19, .guard⟩ (by simp) rfl
        clear hdep ho hJ
        try simp only [fill, slotOf, List.size_toArray, List.length_cons, List.length_nil, Nat.reduceAdd, List.getElem?_toArray, List.getElem?_cons_zero, List.getElem?_cons_succ, Option.bind_some, Act.put, List.setIfInBounds_toArray, List.set_cons_zero, List.set_cons_succ] at hK ⊢
        rw [d20, d21, d19] at hK ⊢
        go_simp
        exact hK (.bool false) _ HJ.out rfl (fun j y h => h) _ rfl
      · obtain rfl := Option.some.inj ho.symm
        have d19 : V 19 = .bool true := hdep ⟨19, .data⟩ (by simp) rfl
        have d22 : V 22 = .bool false := hdep ⟨22, .data⟩ (by simp) rfl
        have d16 : V 16 = .bool false := hdep ⟨16, .guard⟩ (by simp) rfl
        clear hdep ho hJ
        try simp only [fill, slotOf, List.size_toArray, List.length_cons, List.length_nil, Nat.reduceAdd, List.getElem?_toArray, List.getElem?_cons_zero, List.getElem?_cons_succ, Option.bind_some, Act.put, List.setIfInBounds_toArray, List.set_cons_zero, List.set_cons_succ] at hK ⊢
        rw [d19, d22, d16] at hK ⊢
        go_simp
        exact hK (.bool false) _ HJ.out rfl (fun j y h => h) _ rfl
      · obtain rfl := Option.some.inj ho.symm
        have d16 : V 16 = .bool false := hdep ⟨16, .data⟩ (by simp) rfl
        have d23 : V 23 = .bool false := hdep ⟨23, .data⟩ (by simp) rfl
        clear hdep ho hJ
        try simp only [fill, slotOf, List.size_toArray, List.length_cons, List.length_nil, Nat.reduceAdd, List.getElem?_toArray, List.getElem?_cons_zero, List.getElem?_cons_succ, Option.bind_some, Act.put, List.setIfInBounds_toArray, List.set_cons_zero, List.set_cons_succ] at hK ⊢
        rw [d16, d23] at hK ⊢
        go_simp
        exact hK (.bool false) _ HJ.out rfl (fun j y h => h) _ rfl
    · intro V w9 hJ hall
      have dL : V 24 = .bool false := hall 24 (by decide)
      have HJ9 := Lib.hid hJ
      clear hall hJ
      simp only [fill, slotOf, List.size_toArray, List.length_cons, List.length_nil, Nat.reduceAdd, List.getElem?_toArray, List.getElem?_cons_zero, List.getElem?_cons_succ, Option.bind_some, Act.put, List.setIfInBounds_toArray, List.set_cons_zero, List.set_cons_succ]
      rw [dL]
      clear dL
      have HBW := Lib.hid (HB5.out.trans (HJ9.out.mono HB5.out.size))
      have HM4 := Lib.hid ((HJ9.out.block w.heap.size HM4L.out).trans HM4.out)
      have HO7 := Lib.hid ((HJ9.out.block (w.heap.size + 1) HO7L.out).trans HO7.out)
      have HM4L := Lib.hid (Array.getElem?_eq_some_iff.1 HM4.out).1
      have HO7L := Lib.hid (Array.getElem?_eq_some_iff.1 HO7.out).1
      have HMK := Lib.hid (show ∀ W9, Below w9.heap.size w9 W9 → Calls Tryz.prog 8 #[.agg #[.int .i64 s, .int .i64 d, .int .i64 hz, .slice ea en ec, .slice ma mn mc, .slice oa on oc], .int .i64 x] W9 fun e w' => e = .returned (.int .i64 q) ∧ Below W9.heap.size W9 w' from fun W9 hB => by rw [HQ.out]; exact mark_any ((HVM.out.kept HBW.out).kept hB) x)
      have HSQ := Lib.hid (show ∀ W9, Below w9.heap.size w9 W9 → Calls Tryz.prog 9 #[.agg #[.int .i64 s, .int .i64 d, .int .i64 hz, .slice ea en ec, .slice ma mn mc, .slice oa on oc], .int .i64 x] W9 fun e w' => e = .returned (.int .i64 q) ∧ Below W9.heap.size W9 w' from fun W9 hB => by rw [HQ.out]; exact refSeq_any ((HVM.out.kept HBW.out).kept hB) x)
      have HDD := Lib.hid (show ∀ W9, Below w9.heap.size w9 W9 → Calls Tryz.prog 10 #[.agg #[.int .i64 s, .int .i64 d, .int .i64 hz, .slice ea en ec, .slice ma mn mc, .slice oa on oc], .agg #[.int .i64 o0, .int .i64 o1, .int .i64 o2]] W9 fun e w' => e = .returned (.bool dd) ∧ Below W9.heap.size W9 w' from fun W9 hB => by rw [HD.out]; exact did_any ((HVO.out.kept HBW.out).kept hB) o0 o1 o2)
      have HRD := Lib.hid (show ∀ W9, Below w9.heap.size w9 W9 → Calls Tryz.prog 11 #[.agg #[.int .i64 s, .int .i64 d, .int .i64 hz, .slice ea en ec, .slice ma mn mc, .slice oa on oc], .agg #[.int .i64 o0, .int .i64 o1, .int .i64 o2]] W9 fun e w' => e = .returned (.bool dd) ∧ Below W9.heap.size W9 w' from fun W9 hB => by rw [HD.out]; exact refDid_any ((HVO.out.kept HBW.out).kept hB) o0 o1 o2)
      clear HJ9
      go_wp2_with fail
      refine wp_region_fill (by kernel_rfl) (by kernel_rfl) (by kernel_rfl) (Below w9.heap.size w9) (FV (fun j_9 => match j_9 with | 0 => some (.agg #[.int .i64 s, .int .i64 d, .int .i64 hz, .slice ea en ec, .slice ma mn mc, .slice oa on oc]) | 1 => some (.int .i64 x) | 2 => some (.int .i64 q) | 3 => some (.agg #[.int .i64 s, .int .i64 d, .int .i64 hz, .slice ea en ec, .slice ma mn mc, .slice oa on oc]) | 4 => some (.int .i64 x) | 5 => some (.int .i64 q) | 6 => some (.bool true) | 7 => some (.bool true) | 8 => some (.agg #[.int .i64 s, .int .i64 d, .int .i64 hz, .slice ea en ec, .slice ma mn mc, .slice oa on oc]) | 9 => some (.agg #[.int .i64 o0, .int .i64 o1, .int .i64 o2]) | 10 => some (.bool dd) | 11 => some (.agg #[.int .i64 s, .int .i64 d, .int .i64 hz, .slice ea en ec, .slice ma mn mc, .slice oa on oc]) | 12 => some (.agg #[.int .i64 o0, .int .i64 o1, .int .i64 o2]) | 13 => some (.bool dd) | 14 => some (.bool true) | 15 => some (.bool true) | 16 => some (.bool true) | _ => none) (fun _ _ => True)) (Below.refl _ _).drew ?_ ?_
      · intro i9 o ho V w9 K hJ hdep hK
        have HJ := Lib.hid hJ
        simp only [fill, slotOf, List.size_toArray, List.length_cons, List.length_nil, Nat.reduceAdd, List.getElem?_toArray, List.getElem?_cons_zero, List.getElem?_cons_succ, Option.bind_some, Act.put, List.setIfInBounds_toArray, List.set_cons_zero, List.set_cons_succ] at hK ⊢
        have hin : i9 < 17 := (Array.getElem?_eq_some_iff.1 ho).1
        have hcs : i9 = 0 ∨ i9 = 1 ∨ i9 = 2 ∨ i9 = 3 ∨ i9 = 4 ∨ i9 = 5 ∨ i9 = 6 ∨ i9 = 7 ∨ i9 = 8 ∨ i9 = 9 ∨ i9 = 10 ∨ i9 = 11 ∨ i9 = 12 ∨ i9 = 13 ∨ i9 = 14 ∨ i9 = 15 ∨ i9 = 16 := by omega
        clear hin
        rcases hcs with rfl | rfl | rfl | rfl | rfl | rfl | rfl | rfl | rfl | rfl | rfl | rfl | rfl | rfl | rfl | rfl | rfl
        · obtain rfl := Option.some.inj ho.symm
          have m0 : w9.cell? ⟨w.heap.size, 0, none⟩ = some (.int .i64 s) := (hJ.cell (p := ⟨w.heap.size, 0, none⟩) HM4L.out).trans (cell_blk HM4.out rfl)
          have m1 : w9.cell? ⟨w.heap.size, 1, none⟩ = some (.int .i64 d) := (hJ.cell (p := ⟨w.heap.size, 1, none⟩) HM4L.out).trans (cell_blk HM4.out rfl)
          have m2 : w9.cell? ⟨w.heap.size, 2, none⟩ = some (.int .i64 hz) := (hJ.cell (p := ⟨w.heap.size, 2, none⟩) HM4L.out).trans (cell_blk HM4.out rfl)
          have m3 : w9.cell? ⟨w.heap.size, 3, none⟩ = some (.slice ea en ec) := (hJ.cell (p := ⟨w.heap.size, 3, none⟩) HM4L.out).trans (cell_blk HM4.out rfl)
          have m4 : w9.cell? ⟨w.heap.size, 4, none⟩ = some (.slice ma mn mc) := (hJ.cell (p := ⟨w.heap.size, 4, none⟩) HM4L.out).trans (cell_blk HM4.out rfl)
          have m5 : w9.cell? ⟨w.heap.size, 5, none⟩ = some (.slice oa on oc) := (hJ.cell (p := ⟨w.heap.size, 5, none⟩) HM4L.out).trans (cell_blk HM4.out rfl)
          clear hdep ho hJ
          try simp only [fill, slotOf, List.size_toArray, List.length_cons, List.length_nil, Nat.reduceAdd, List.getElem?_toArray, List.getElem?_cons_zero, List.getElem?_cons_succ, Option.bind_some, Act.put, List.setIfInBounds_toArray, List.set_cons_zero, List.set_cons_succ] at hK ⊢
          go_simp
          exact hK (.agg #[.int .i64 s, .int .i64 d, .int .i64 hz, .slice ea en ec, .slice ma mn mc, .slice oa on oc]) _ HJ.out rfl (fun j y h => h) _ rfl
        · obtain rfl := Option.some.inj ho.symm
          clear hdep ho hJ
          try simp only [fill, slotOf, List.size_toArray, List.length_cons, List.length_nil, Nat.reduceAdd, List.getElem?_toArray, List.getElem?_cons_zero, List.getElem?_cons_succ, Option.bind_some, Act.put, List.setIfInBounds_toArray, List.set_cons_zero, List.set_cons_succ] at hK ⊢
          go_simp
          exact hK (.int .i64 x) _ HJ.out rfl (fun j y h => h) _ rfl
        · obtain rfl := Option.some.inj ho.symm
          have d0 : V 0 = .agg #[.int .i64 s, .int .i64 d, .int .i64 hz, .slice ea en ec, .slice ma mn mc, .slice oa on oc] := hdep ⟨0, .data⟩ (by simp) rfl
          have d1 : V 1 = .int .i64 x := hdep ⟨1, .data⟩ (by simp) rfl
          clear hdep ho hJ
          try simp only [fill, slotOf, List.size_toArray, List.length_cons, List.length_nil, Nat.reduceAdd, List.getElem?_toArray, List.getElem?_cons_zero, List.getElem?_cons_succ, Option.bind_some, Act.put, List.setIfInBounds_toArray, List.set_cons_zero, List.set_cons_succ] at hK ⊢
          rw [d0, d1] at hK ⊢
          go_simp
          refine (HMK.out w9 HJ.out).mono ?_
          rintro e w8 ⟨rfl, hb8⟩
          exact hK (.int .i64 q) _ (HJ.out.trans (hb8.mono HJ.out.size)) rfl (FV.mono ((fun _ _ _ => trivial) hb8)) _ rfl
        · obtain rfl := Option.some.inj ho.symm
          have m0 : w9.cell? ⟨w.heap.size, 0, none⟩ = some (.int .i64 s) := (hJ.cell (p := ⟨w.heap.size, 0, none⟩) HM4L.out).trans (cell_blk HM4.out rfl)
          have m1 : w9.cell? ⟨w.heap.size, 1, none⟩ = some (.int .i64 d) := (hJ.cell (p := ⟨w.heap.size, 1, none⟩) HM4L.out).trans (cell_blk HM4.out rfl)
          have m2 : w9.cell? ⟨w.heap.size, 2, none⟩ = some (.int .i64 hz) := (hJ.cell (p := ⟨w.heap.size, 2, none⟩) HM4L.out).trans (cell_blk HM4.out rfl)
          have m3 : w9.cell? ⟨w.heap.size, 3, none⟩ = some (.slice ea en ec) := (hJ.cell (p := ⟨w.heap.size, 3, none⟩) HM4L.out).trans (cell_blk HM4.out rfl)
          have m4 : w9.cell? ⟨w.heap.size, 4, none⟩ = some (.slice ma mn mc) := (hJ.cell (p := ⟨w.heap.size, 4, none⟩) HM4L.out).trans (cell_blk HM4.out rfl)
          have m5 : w9.cell? ⟨w.heap.size, 5, none⟩ = some (.slice oa on oc) := (hJ.cell (p := ⟨w.heap.size, 5, none⟩) HM4L.out).trans (cell_blk HM4.out rfl)
          clear hdep ho hJ
          try simp only [fill, slotOf, List.size_toArray, List.length_cons, List.length_nil, Nat.reduceAdd, List.getElem?_toArray, List.getElem?_cons_zero, List.getElem?_cons_succ, Option.bind_some, Act.put, List.setIfInBounds_toArray, List.set_cons_zero, List.set_cons_succ] at hK ⊢
          go_simp
          exact hK (.agg #[.int .i64 s, .int .i64 d, .int .i64 hz, .slice ea en ec, .slice ma mn mc, .slice oa on oc]) _ HJ.out rfl (fun j y h => h) _ rfl
        · obtain rfl := Option.some.inj ho.symm
          clear hdep ho hJ
          try simp only [fill, slotOf, List.size_toArray, List.length_cons, List.length_nil, Nat.reduceAdd, List.getElem?_toArray, List.getElem?_cons_zero, List.getElem?_cons_succ, Option.bind_some, Act.put, List.setIfInBounds_toArray, List.set_cons_zero, List.set_cons_succ] at hK ⊢
          go_simp
          exact hK (.int .i64 x) _ HJ.out rfl (fun j y h => h) _ rfl
        · obtain rfl := Option.some.inj ho.symm
          have d3 : V 3 = .agg #[.int .i64 s, .int .i64 d, .int .i64 hz, .slice ea en ec, .slice ma mn mc, .slice oa on oc] := hdep ⟨3, .data⟩ (by simp) rfl
          have d4 : V 4 = .int .i64 x := hdep ⟨4, .data⟩ (by simp) rfl
          clear hdep ho hJ
          try simp only [fill, slotOf, List.size_toArray, List.length_cons, List.length_nil, Nat.reduceAdd, List.getElem?_toArray, List.getElem?_cons_zero, List.getElem?_cons_succ, Option.bind_some, Act.put, List.setIfInBounds_toArray, List.set_cons_zero, List.set_cons_succ] at hK ⊢
          rw [d3, d4] at hK ⊢
          go_simp
          refine (HSQ.out w9 HJ.out).mono ?_
          rintro e w8 ⟨rfl, hb8⟩
          exact hK (.int .i64 q) _ (HJ.out.trans (hb8.mono HJ.out.size)) rfl (FV.mono ((fun _ _ _ => trivial) hb8)) _ rfl
        · obtain rfl := Option.some.inj ho.symm
          have d2 : V 2 = .int .i64 q := hdep ⟨2, .data⟩ (by simp) rfl
          have d5 : V 5 = .int .i64 q := hdep ⟨5, .data⟩ (by simp) rfl
          clear hdep ho hJ
          try simp only [fill, slotOf, List.size_toArray, List.length_cons, List.length_nil, Nat.reduceAdd, List.getElem?_toArray, List.getElem?_cons_zero, List.getElem?_cons_succ, Option.bind_some, Act.put, List.setIfInBounds_toArray, List.set_cons_zero, List.set_cons_succ] at hK ⊢
          rw [d2, d5] at hK ⊢
          go_simp
          exact hK (.bool true) _ HJ.out rfl (fun j y h => h) _ rfl
        · obtain rfl := Option.some.inj ho.symm
          have d6 : V 6 = .bool true := hdep ⟨6, .data⟩ (by simp) rfl
          clear hdep ho hJ
          try simp only [fill, slotOf, List.size_toArray, List.length_cons, List.length_nil, Nat.reduceAdd, List.getElem?_toArray, List.getElem?_cons_zero, List.getElem?_cons_succ, Option.bind_some, Act.put, List.setIfInBounds_toArray, List.set_cons_zero, List.set_cons_succ] at hK ⊢
          rw [d6] at hK ⊢
          go_simp
          exact hK (.bool true) _ HJ.out rfl (fun j y h => h) _ rfl
        · obtain rfl := Option.some.inj ho.symm
          have d7 : V 7 = .bool true := hdep ⟨7, .guard⟩ (by simp) rfl
          have m0 : w9.cell? ⟨w.heap.size, 0, none⟩ = some (.int .i64 s) := (hJ.cell (p := ⟨w.heap.size, 0, none⟩) HM4L.out).trans (cell_blk HM4.out rfl)
          have m1 : w9.cell? ⟨w.heap.size, 1, none⟩ = some (.int .i64 d) := (hJ.cell (p := ⟨w.heap.size, 1, none⟩) HM4L.out).trans (cell_blk HM4.out rfl)
          have m2 : w9.cell? ⟨w.heap.size, 2, none⟩ = some (.int .i64 hz) := (hJ.cell (p := ⟨w.heap.size, 2, none⟩) HM4L.out).trans (cell_blk HM4.out rfl)
          have m3 : w9.cell? ⟨w.heap.size, 3, none⟩ = some (.slice ea en ec) := (hJ.cell (p := ⟨w.heap.size, 3, none⟩) HM4L.out).trans (cell_blk HM4.out rfl)
          have m4 : w9.cell? ⟨w.heap.size, 4, none⟩ = some (.slice ma mn mc) := (hJ.cell (p := ⟨w.heap.size, 4, none⟩) HM4L.out).trans (cell_blk HM4.out rfl)
          have m5 : w9.cell? ⟨w.heap.size, 5, none⟩ = some (.slice oa on oc) := (hJ.cell (p := ⟨w.heap.size, 5, none⟩) HM4L.out).trans (cell_blk HM4.out rfl)
          clear hdep ho hJ
          try simp only [fill, slotOf, List.size_toArray, List.length_cons, List.length_nil, Nat.reduceAdd, List.getElem?_toArray, List.getElem?_cons_zero, List.getElem?_cons_succ, Option.bind_some, Act.put, List.setIfInBounds_toArray, List.set_cons_zero, List.set_cons_succ] at hK ⊢
          rw [d7] at hK ⊢
          go_simp
          exact hK (.agg #[.int .i64 s, .int .i64 d, .int .i64 hz, .slice ea en ec, .slice ma mn mc, .slice oa on oc]) _ HJ.out rfl (fun j y h => h) _ rfl
        · obtain rfl := Option.some.inj ho.symm
          have d7 : V 7 = .bool true := hdep ⟨7, .guard⟩ (by simp) rfl
          have y0 : w9.cell? ⟨w.heap.size + 1, 0, none⟩ = some (.int .i64 o0) := (hJ.cell (p := ⟨w.heap.size + 1, 0, none⟩) HO7L.out).trans (cell_blk HO7.out rfl)
          have y1 : w9.cell? ⟨w.heap.size + 1, 1, none⟩ = some (.int .i64 o1) := (hJ.cell (p := ⟨w.heap.size + 1, 1, none⟩) HO7L.out).trans (cell_blk HO7.out rfl)
          have y2 : w9.cell? ⟨w.heap.size + 1, 2, none⟩ = some (.int .i64 o2) := (hJ.cell (p := ⟨w.heap.size + 1, 2, none⟩) HO7L.out).trans (cell_blk HO7.out rfl)
          clear hdep ho hJ
          try simp only [fill, slotOf, List.size_toArray, List.length_cons, List.length_nil, Nat.reduceAdd, List.getElem?_toArray, List.getElem?_cons_zero, List.getElem?_cons_succ, Option.bind_some, Act.put, List.setIfInBounds_toArray, List.set_cons_zero, List.set_cons_succ] at hK ⊢
          rw [d7] at hK ⊢
          go_simp
          exact hK (.agg #[.int .i64 o0, .int .i64 o1, .int .i64 o2]) _ HJ.out rfl (fun j y h => h) _ rfl
        · obtain rfl := Option.some.inj ho.symm
          have d8 : V 8 = .agg #[.int .i64 s, .int .i64 d, .int .i64 hz, .slice ea en ec, .slice ma mn mc, .slice oa on oc] := hdep ⟨8, .data⟩ (by simp) rfl
          have d9 : V 9 = .agg #[.int .i64 o0, .int .i64 o1, .int .i64 o2] := hdep ⟨9, .data⟩ (by simp) rfl
          have d7 : V 7 = .bool true := hdep ⟨7, .guard⟩ (by simp) rfl
          clear hdep ho hJ
          try simp only [fill, slotOf, List.size_toArray, List.length_cons, List.length_nil, Nat.reduceAdd, List.getElem?_toArray, List.getElem?_cons_zero, List.getElem?_cons_succ, Option.bind_some, Act.put, List.setIfInBounds_toArray, List.set_cons_zero, List.set_cons_succ] at hK ⊢
          rw [d8, d9, d7] at hK ⊢
          go_simp
          refine (HDD.out w9 HJ.out).mono ?_
          rintro e w8 ⟨rfl, hb8⟩
          exact hK (.bool dd) _ (HJ.out.trans (hb8.mono HJ.out.size)) rfl (FV.mono ((fun _ _ _ => trivial) hb8)) _ rfl
        · obtain rfl := Option.some.inj ho.symm
          have d7 : V 7 = .bool true := hdep ⟨7, .guard⟩ (by simp) rfl
          have m0 : w9.cell? ⟨w.heap.size, 0, none⟩ = some (.int .i64 s) := (hJ.cell (p := ⟨w.heap.size, 0, none⟩) HM4L.out).trans (cell_blk HM4.out rfl)
          have m1 : w9.cell? ⟨w.heap.size, 1, none⟩ = some (.int .i64 d) := (hJ.cell (p := ⟨w.heap.size, 1, none⟩) HM4L.out).trans (cell_blk HM4.out rfl)
          have m2 : w9.cell? ⟨w.heap.size, 2, none⟩ = some (.int .i64 hz) := (hJ.cell (p := ⟨w.heap.size, 2, none⟩) HM4L.out).trans (cell_blk HM4.out rfl)
          have m3 : w9.cell? ⟨w.heap.size, 3, none⟩ = some (.slice ea en ec) := (hJ.cell (p := ⟨w.heap.size, 3, none⟩) HM4L.out).trans (cell_blk HM4.out rfl)
          have m4 : w9.cell? ⟨w.heap.size, 4, none⟩ = some (.slice ma mn mc) := (hJ.cell (p := ⟨w.heap.size, 4, none⟩) HM4L.out).trans (cell_blk HM4.out rfl)
          have m5 : w9.cell? ⟨w.heap.size, 5, none⟩ = some (.slice oa on oc) := (hJ.cell (p := ⟨w.heap.size, 5, none⟩) HM4L.out).trans (cell_blk HM4.out rfl)
          clear hdep ho hJ
          try simp only [fill, slotOf, List.size_toArray, List.length_cons, List.length_nil, Nat.reduceAdd, List.getElem?_toArray, List.getElem?_cons_zero, List.getElem?_cons_succ, Option.bind_some, Act.put, List.setIfInBounds_toArray, List.set_cons_zero, List.set_cons_succ] at hK ⊢
          rw [d7] at hK ⊢
          go_simp
          exact hK (.agg #[.int .i64 s, .int .i64 d, .int .i64 hz, .slice ea en ec, .slice ma mn mc, .slice oa on oc]) _ HJ.out rfl (fun j y h => h) _ rfl
        · obtain rfl := Option.some.inj ho.symm
          have d7 : V 7 = .bool true := hdep ⟨7, .guard⟩ (by simp) rfl
          have y0 : w9.cell? ⟨w.heap.size + 1, 0, none⟩ = some (.int .i64 o0) := (hJ.cell (p := ⟨w.heap.size + 1, 0, none⟩) HO7L.out).trans (cell_blk HO7.out rfl)
          have y1 : w9.cell? ⟨w.heap.size + 1, 1, none⟩ = some (.int .i64 o1) := (hJ.cell (p := ⟨w.heap.size + 1, 1, none⟩) HO7L.out).trans (cell_blk HO7.out rfl)
          have y2 : w9.cell? ⟨w.heap.size + 1, 2, none⟩ = some (.int .i64 o2) := (hJ.cell (p := ⟨w.heap.size + 1, 2, none⟩) HO7L.out).trans (cell_blk HO7.out rfl)
          clear hdep ho hJ
          try simp only [fill, slotOf, List.size_toArray, List.length_cons, List.length_nil, Nat.reduceAdd, List.getElem?_toArray, List.getElem?_cons_zero, List.getElem?_cons_succ, Option.bind_some, Act.put, List.setIfInBounds_toArray, List.set_cons_zero, List.set_cons_succ] at hK ⊢
          rw [d7] at hK ⊢
          go_simp
          exact hK (.agg #[.int .i64 o0, .int .i64 o1, .int .i64 o2]) _ HJ.out rfl (fun j y h => h) _ rfl
        · obtain rfl := Option.some.inj ho.symm
          have d11 : V 11 = .agg #[.int .i64 s, .int .i64 d, .int .i64 hz, .slice ea en ec, .slice ma mn mc, .slice oa on oc] := hdep ⟨11, .data⟩ (by simp) rfl
          have d12 : V 12 = .agg #[.int .i64 o0, .int .i64 o1, .int .i64 o2] := hdep ⟨12, .data⟩ (by simp) rfl
          have d7 : V 7 = .bool true := hdep ⟨7, .guard⟩ (by simp) rfl
          clear hdep ho hJ
          try simp only [fill, slotOf, List.size_toArray, List.length_cons, List.length_nil, Nat.reduceAdd, List.getElem?_toArray, List.getElem?_cons_zero, List.getElem?_cons_succ, Option.bind_some, Act.put, List.setIfInBounds_toArray, List.set_cons_zero, List.set_cons_succ] at hK ⊢
          rw [d11, d12, d7] at hK ⊢
          go_simp
          refine (HRD.out w9 HJ.out).mono ?_
          rintro e w8 ⟨rfl, hb8⟩
          exact hK (.bool dd) _ (HJ.out.trans (hb8.mono HJ.out.size)) rfl (FV.mono ((fun _ _ _ => trivial) hb8)) _ rfl
        · obtain rfl := Option.some.inj ho.symm
          have d10 : V 10 = .bool dd := hdep ⟨10, .data⟩ (by simp) rfl
          have d13 : V 13 = .bool dd := hdep ⟨13, .data⟩ (by simp) rfl
          have d7 : V 7 = .bool true := hdep ⟨7, .guard⟩ (by simp) rfl
          clear hdep ho hJ
          try simp only [fill, slotOf, List.size_toArray, List.length_cons, List.length_nil, Nat.reduceAdd, List.getElem?_toArray, List.getElem?_cons_zero, List.getElem?_cons_succ, Option.bind_some, Act.put, List.setIfInBounds_toArray, List.set_cons_zero, List.set_cons_succ] at hK ⊢
          rw [d10, d13, d7] at hK ⊢
          go_simp
          exact hK (.bool true) _ HJ.out rfl (fun j y h => h) _ rfl
        · obtain rfl := Option.some.inj ho.symm
          have d7 : V 7 = .bool true := hdep ⟨7, .data⟩ (by simp) rfl
          have d14 : V 14 = .bool true := hdep ⟨14, .data⟩ (by simp) rfl
          clear hdep ho hJ
          try simp only [fill, slotOf, List.size_toArray, List.length_cons, List.length_nil, Nat.reduceAdd, List.getElem?_toArray, List.getElem?_cons_zero, List.getElem?_cons_succ, Option.bind_some, Act.put, List.setIfInBounds_toArray, List.set_cons_zero, List.set_cons_succ] at hK ⊢
          rw [d7, d14] at hK ⊢
          go_simp
          exact hK (.bool true) _ HJ.out rfl (fun j y h => h) _ rfl
        · obtain rfl := Option.some.inj ho.symm
          have d15 : V 15 = .bool true := hdep ⟨15, .data⟩ (by simp) rfl
          clear hdep ho hJ
          try simp only [fill, slotOf, List.size_toArray, List.length_cons, List.length_nil, Nat.reduceAdd, List.getElem?_toArray, List.getElem?_cons_zero, List.getElem?_cons_succ, Option.bind_some, Act.put, List.setIfInBounds_toArray, List.set_cons_zero, List.set_cons_succ] at hK ⊢
          rw [d15] at hK ⊢
          go_simp
          exact hK (.bool true) _ HJ.out rfl (fun j y h => h) _ rfl
      · intro V w9 hJ hall
        have dL : V 16 = .bool true := hall 16 (by decide)
        have HJ9 := Lib.hid hJ
        clear hall hJ
        simp only [fill, slotOf, List.size_toArray, List.length_cons, List.length_nil, Nat.reduceAdd, List.getElem?_toArray, List.getElem?_cons_zero, List.getElem?_cons_succ, Option.bind_some, Act.put, List.setIfInBounds_toArray, List.set_cons_zero, List.set_cons_succ]
        rw [dL]
        clear dL
        have HBZ := Lib.hid (HBW.out.trans (HJ9.out.mono HBW.out.size))
        go_wp2_with fail
        go_ret
        exact ⟨rfl, HBZ.out⟩

end Go.Proofs.YtmgimmbihcbkbaaGreat
