/- Texts put together by packtpl2.py: MfH, MfI, MfJ. -/
import Derived.Test.YtbdgcfimbblncaaGreatDoorPkMC2
import Derived.Test.YtbdgcfimbblncaaGreatDoorPkMC5
import Derived.Laws.StructEq
section PkMC9_0
/- Manifests: what one holds, looked up by both sides, walked. Written by genmfh.py. -/
namespace Go.Proofs.YtbdgcfimbblncaaGreatDoor
open Go.RowKit LabPlain
set_option linter.unusedVariables false

theorem any_at {α : Type} (p : α → Bool) (d : α) : ∀ (l : List α) (k : Nat), k < l.length → p (l.getD k d) = true → l.any p = true
  | x :: l, 0, _, h => by simp at h; simp [h]
  | x :: l, k + 1, hk, h => by
    rw [List.any_cons, any_at p d l k (by simpa using hk) (by simpa using h), Bool.or_true]
theorem any_no {α : Type} (p : α → Bool) (d : α) : ∀ (l : List α), (∀ j, j < l.length → p (l.getD j d) = false) → l.any p = false
  | [], _ => rfl
  | x :: l, h => by
    have hx : p x = false := by simpa using h 0 (by simp)
    rw [List.any_cons, hx, any_no p d l (fun j hj => by simpa using h (j + 1) (by simpa using hj))]
    rfl
/-- an upload that an agent did -/
def didp (y0 y1 y2 : Int) (x : Int × Int × Int) : Bool := decide (x.1 = y0) && decide (x.2.1 = y1) && decide (y2 ≤ x.2.2)
def DidIs (l : List (Int × Int × Int)) (y0 y1 y2 : Int) (e : Ending) : Prop := e = .returned (.bool (l.any (didp y0 y1 y2)))
def IndexIs (l : List (Int × Int × Int)) (y0 y1 y2 : Int) (e : Ending) : Prop := ∃ z : Int, e = .returned (.int .i64 z) ∧ decide (z ≥ 0) = l.any (didp y0 y1 y2)
def FindAt (l : List EntV) (key : ByteArray) (n : Nat) (e : Ending) : Prop := ∃ z : Int, e = .returned (.int .i64 z) ∧ ((∃ k : Nat, z = k ∧ k < n ∧ l.find? (fun x => decide (x.key = key)) = some (l.getD k EntS.z)) ∨ (z = -1 ∧ l.find? (fun x => decide (x.key = key)) = none))

set_option maxRecDepth 100000 in
set_option maxHeartbeats 2000000 in
theorem didc_any {w : World} {p : Nat} {y0 y1 y2 : Int} (hp : p < w.heap.size) (h0 : w.cell? ⟨p, 0, none⟩ = some (.int .i64 y0)) (h1 : w.cell? ⟨p, 1, none⟩ = some (.int .i64 y1)) (h2 : w.cell? ⟨p, 2, none⟩ = some (.int .i64 y2)) (x0 x1 x2 : Int) :
    Calls Tryz.prog 76 #[.agg #[.int .i64 x0, .int .i64 x1, .int .i64 x2], .pointer (some ⟨p, 0, none⟩)] w fun e w' => e = .returned (.bool (didp y0 y1 y2 (x0, x1, x2))) ∧ Below w.heap.size w w' := by
  have HB := Lib.hid ((Below.refl w.heap.size w).alloc (Nat.le_refl _) (.cells #[.int .i64 x0, .int .i64 x1, .int .i64 x2] 45))
  go_enter Tryz.func76, Tryz.ntmps76
  by_cases e0 : x0 = y0
  · have b0 : (x0 == y0) = true := beq_iff_eq.2 e0
    by_cases e1 : x1 = y1
    · have b1 : (x1 == y1) = true := beq_iff_eq.2 e1
      by_cases e2 : y2 ≤ x2
      · have HD := Lib.hid (show didp y0 y1 y2 (x0, x1, x2) = true from by simp [didp, e0, e1, e2])
        clear e0 e1
        go_wp2_with fail
        go_ret
        exact ⟨by rw [HD.out]; rfl, HB.out⟩
      · have HD := Lib.hid (show didp y0 y1 y2 (x0, x1, x2) = false from by simp [didp, e2])
        clear e0 e1
        go_wp2_with fail
        go_ret
        exact ⟨by rw [HD.out]; rfl, HB.out⟩
    · have b1 : (x1 == y1) = false := beq_eq_false_iff_ne.2 e1
      have HD := Lib.hid (show didp y0 y1 y2 (x0, x1, x2) = false from by simp [didp, e1])
      clear e0 e1
      go_wp2_with fail
      go_ret
      exact ⟨by rw [HD.out]; rfl, HB.out⟩
  · have b0 : (x0 == y0) = false := beq_eq_false_iff_ne.2 e0
    have HD := Lib.hid (show didp y0 y1 y2 (x0, x1, x2) = false from by simp [didp, e0])
    clear e0
    go_wp2_with fail
    go_ret
    exact ⟨by rw [HD.out]; rfl, HB.out⟩

set_option maxRecDepth 100000 in
set_option maxHeartbeats 4000000 in
theorem index_any {w : World} {p : Nat} {y0 y1 y2 : Int} {oa : Option Addr} {on oc : Nat} {l : List (Int × Int × Int)} (hp : p < w.heap.size) (h0 : w.cell? ⟨p, 0, none⟩ = some (.int .i64 y0)) (h1 : w.cell? ⟨p, 1, none⟩ = some (.int .i64 y1)) (h2 : w.cell? ⟨p, 2, none⟩ = some (.int .i64 y2)) (h : VecAt OwnS w oa on oc l) :
    Calls Tryz.prog 108 #[.slice oa on oc, .func (.func 76) #[] #[.pointer (some ⟨p, 0, none⟩)]] w fun e w' => IndexIs l y0 y1 y2 e ∧ Below w.heap.size w w' := by
  have hcap := h.cap
  have hcm := h.capm
  have HH := Lib.hid h
  have HL := Lib.hid h.len
  have HP := Lib.hid hp
  have H0 := Lib.hid h0
  have H1 := Lib.hid h1
  have H2 := Lib.hid h2
  clear h hp h0 h1 h2
  go_enter Tryz.func108, Tryz.ntmps108
  go_wp2_with fail
  go_loopw [5, 8] (fun _ s8 wr => ∃ k : Nat, k ≤ on ∧ s8 = .int .i64 (k : Int) ∧ Hid (∀ j, j < k → didp y0 y1 y2 (l.getD j OwnS.z) = false) ∧ Hid (Below w.heap.size w wr)) (fun _ s8 _ => on - (intOf s8).toNat)
  case atStart => exact ⟨0, by omega, rfl, Lib.hid (fun j hj => by omega), Lib.hid (Below.refl _ _)⟩
  case round =>
    obtain ⟨k, hk, rfl, HN, HB⟩ := hrel
    rename World => wr
    by_cases hkn : k < on
    · have hki : (k : Int) < (on : Int) := by omega
      obtain ⟨sb, so, rfl, hsl, _, hsc9⟩ := (HH.out.kept HB.out).get hkn
      obtain ⟨s, hse⟩ : ∃ s, s = l.getD k OwnS.z := ⟨_, rfl⟩
      rw [← hse] at hsc9
      have HSE := Lib.hid hse
      obtain ⟨x0, x1, x2⟩ := s
      have d0 : wr.cell? ⟨sb, so + k * 3, none⟩ = some (.int .i64 x0) := hsc9 0 _ rfl
      have d1 : wr.cell? ⟨sb, so + k * 3 + 1, none⟩ = some (.int .i64 x1) := hsc9 1 _ rfl
      have d2 : wr.cell? ⟨sb, so + k * 3 + 2, none⟩ = some (.int .i64 x2) := hsc9 2 _ rfl
      have HCM := Lib.hid (didc_any (w := wr) (Nat.lt_of_lt_of_le HP.out HB.out.size) ((HB.out.cell (p := ⟨p, 0, none⟩) HP.out).trans H0.out) ((HB.out.cell (p := ⟨p, 1, none⟩) HP.out).trans H1.out) ((HB.out.cell (p := ⟨p, 2, none⟩) HP.out).trans H2.out) x0 x1 x2)
      clear hsc9 hse hsl
      go_wp2_with fail
      refine HCM.out.mono ?_
      rintro e w3 ⟨rfl, hb3⟩
      have HB3 := Lib.hid (HB.out.trans (hb3.mono HB.out.size))
      clear hb3
      cases hd : didp y0 y1 y2 (x0, x1, x2) with
      | true =>
        have HD := Lib.hid hd
        clear hd
        go_wp2_with fail
        go_ret
        exact ⟨⟨k, rfl, by rw [any_at (didp y0 y1 y2) OwnS.z l k (by rw [HL.out]; exact hkn) (by rw [← HSE.out]; exact HD.out)]; exact decide_eq_true (by omega)⟩, HB3.out⟩
      | false =>
        have HN2 := Lib.hid (show ∀ j, j < k + 1 → didp y0 y1 y2 (l.getD j OwnS.z) = false from fun j hj => by
          rcases Nat.lt_or_ge j k with g | g
          · exact HN.out j g
          · rw [show j = k from by omega, ← HSE.out]; exact hd)
        clear hd
        go_wp2_with fail
        go_roundw
        case rel => exact ⟨k + 1, by omega, by go_num, HN2, HB3⟩
        case measure => simp [intOf]; omega
    · obtain rfl : on = k := by omega
      clear hkn
      go_wp2_with fail
      go_ret
      exact ⟨⟨-1, rfl, by rw [any_no (didp y0 y1 y2) OwnS.z l (by rw [HL.out]; exact HN.out)]; rfl⟩, HB.out⟩
set_option maxRecDepth 100000 in
theorem contains_any {w : World} {p : Nat} {y0 y1 y2 : Int} {oa : Option Addr} {on oc : Nat} {l : List (Int × Int × Int)} (hp : p < w.heap.size) (h0 : w.cell? ⟨p, 0, none⟩ = some (.int .i64 y0)) (h1 : w.cell? ⟨p, 1, none⟩ = some (.int .i64 y1)) (h2 : w.cell? ⟨p, 2, none⟩ = some (.int .i64 y2)) (h : VecAt OwnS w oa on oc l) :
    Calls Tryz.prog 75 #[.slice oa on oc, .func (.func 76) #[] #[.pointer (some ⟨p, 0, none⟩)]] w fun e w' => DidIs l y0 y1 y2 e ∧ Below w.heap.size w w' := by
  have HI := Lib.hid (index_any hp h0 h1 h2 h)
  clear hp h0 h1 h2 h
  go_enter Tryz.func75, Tryz.ntmps75
  go_wp2_with fail
  refine HI.out.mono ?_
  rintro e w1 ⟨⟨z, rfl, hz⟩, hb⟩
  have HB := Lib.hid hb
  have HZ := Lib.hid hz
  clear hb hz
  go_wp2_with fail
  go_ret
  exact ⟨by unfold DidIs; rw [← HZ.out]; rfl, HB.out⟩
set_option maxRecDepth 100000 in
set_option maxHeartbeats 2000000 in
theorem did_any {w : World} {s d hz : Int} {ea ma oa : Option Addr} {en ec mn mc on oc : Nat} {l : List (Int × Int × Int)} (h : VecAt OwnS w oa on oc l) (y0 y1 y2 : Int) :
    Calls Tryz.prog 20 #[.agg #[.int .i64 s, .int .i64 d, .int .i64 hz, .slice ea en ec, .slice ma mn mc, .slice oa on oc], .agg #[.int .i64 y0, .int .i64 y1, .int .i64 y2]] w fun e w' => DidIs l y0 y1 y2 e ∧ Below w.heap.size w w' := by
  obtain ⟨wa, hwa⟩ : ∃ wa, wa = w.alloc (.cells #[.int .i64 s, .int .i64 d, .int .i64 hz, .slice ea en ec, .slice ma mn mc, .slice oa on oc] 26) := ⟨_, rfl⟩
  obtain ⟨wb, hwb⟩ : ∃ wb, wb = wa.alloc (.cells #[.int .i64 y0, .int .i64 y1, .int .i64 y2] 45) := ⟨_, rfl⟩
  have sa : wa.heap.size = w.heap.size + 1 := by rw [hwa]; exact Array.size_push _
  have sb : wb.heap.size = w.heap.size + 2 := by rw [hwb]; show (wa.heap.push _).size = _; rw [Array.size_push, sa]
  have ba : Below w.heap.size w wa := by rw [hwa]; exact (Below.refl _ _).alloc (Nat.le_refl _) _
  have bb : Below w.heap.size w wb := by rw [hwb]; exact ba.alloc ba.size _
  have gb : wb.heap[w.heap.size + 1]? = some (.cells #[.int .i64 y0, .int .i64 y1, .int .i64 y2] 45 (0, 0)) := by rw [hwb, ← sa]; exact heap_alloc_new _ _
  have ga : wb.heap[w.heap.size]? = some (.cells #[.int .i64 s, .int .i64 d, .int .i64 hz, .slice ea en ec, .slice ma mn mc, .slice oa on oc] 26 (0, 0)) := by rw [hwb, hao9 _ _ _ (by omega), hwa]; exact heap_alloc_new _ _
  have HCT := Lib.hid (contains_any (w := wb) (p := w.heap.size + 1) (by omega) (cell_blk gb rfl) (cell_blk gb rfl) (cell_blk gb rfl) (h.kept bb))
  have HBB := Lib.hid bb
  have HWB := Lib.hid (show (w.alloc (.cells #[.int .i64 s, .int .i64 d, .int .i64 hz, .slice ea en ec, .slice ma mn mc, .slice oa on oc] 26)).alloc (.cells #[.int .i64 y0, .int .i64 y1, .int .i64 y2] 45) = wb from by rw [hwb, hwa])
  have c5 : wb.cell? ⟨w.heap.size, 5, none⟩ = some (.slice oa on oc) := cell_blk ga rfl
  clear hwa hwb sa sb ba bb gb ga h
  go_enter Tryz.func20, Tryz.ntmps20
  go_wp2_with fail
  rw [HWB.out]
  go_wp2_with fail
  refine HCT.out.mono ?_
  rintro e w1 ⟨hd, hb⟩
  obtain ⟨q, hq⟩ : ∃ q, q = l.any (didp y0 y1 y2) := ⟨_, rfl⟩
  obtain rfl : e = .returned (.bool q) := by rw [hq]; exact hd
  have HB := Lib.hid (HBB.out.trans (hb.mono HBB.out.size))
  have HQ := Lib.hid hq
  clear hb hd hq
  go_wp2_with fail
  go_ret
  exact ⟨by unfold DidIs; rw [← HQ.out]; rfl, HB.out⟩





end Go.Proofs.YtbdgcfimbblncaaGreatDoor
end PkMC9_0
section PkMC9_1
/- Manifests: the fixed edit lives; few; and what one holds, as the law asks. Written by genmfi.py. -/
namespace Go.Proofs.YtbdgcfimbblncaaGreatDoor
open Go.RowKit LabPlain
set_option linter.unusedVariables false

@[go_sem] theorem eq_ent (x0 : ByteArray) (x1 : Int) (x2 : ByteArray) (x3 x4 x5 x6 x7 x8 : Int) (w : World) : (Op.equalIn 10000 53 (.agg #[.string x0, .int .i64 x1, .string x2, .int .i64 x3, .int .i64 x4, .int .i64 x5, .int .i64 x6, .int .u32 x7, .int .i64 x8]) (.agg #[.string x0, .int .i64 x1, .string x2, .int .i64 x3, .int .i64 x4, .int .i64 x5, .int .i64 x6, .int .u32 x7, .int .i64 x8])).run Tryz.prog w = .ok true w := by
  have us := Tryz.underlying9
  have ag := Tryz.isAgg9
  have zs := Tryz.sizeOf9
  have hS : Tryz.prog.underlying 53 = some (.struct (Tryz.prog.fieldsOf 53)) := by kernel_rfl
  have hp : Tryz.prog.stoodInHeld 53 = false := by kernel_rfl
  rw [show (10000 : Nat) = 9999 + 1 from rfl, run_equalIn_agg w 9999 53 _ _ hS hp]
  simp only [Program.fieldsOf, Tryz.underlying53]
  go_simp
@[go_sem] theorem guard_ent (x y : Operand) (xs ys : Array Value) (w : World) : (eqGuard .neq 53 x y (.agg xs) (.agg ys)).run Tryz.prog w = .ok () w := run_eqGuard_agg w .neq 53 x y xs ys (by kernel_rfl)
@[go_sem] theorem neq_ent (x0 : ByteArray) (x1 : Int) (x2 : ByteArray) (x3 x4 x5 x6 x7 x8 : Int) (w : World) : (binOp .neq 53 (.agg #[.string x0, .int .i64 x1, .string x2, .int .i64 x3, .int .i64 x4, .int .i64 x5, .int .i64 x6, .int .u32 x7, .int .i64 x8]) (.agg #[.string x0, .int .i64 x1, .string x2, .int .i64 x3, .int .i64 x4, .int .i64 x5, .int .i64 x6, .int .u32 x7, .int .i64 x8])).run Tryz.prog w = .ok (.bool false) w := by
  rw [run_neq_struct, eq_ent]; rfl

def BoolIs (e : Ending) : Prop := ∃ b, e = .returned (.bool b)
set_option maxRecDepth 100000 in
set_option maxHeartbeats 4000000 in
theorem lives_true (w : World) : Calls Tryz.prog 6 #[] w fun e w' => e = .returned (.bool true) ∧ Below w.heap.size w w' := by
  obtain ⟨wa, hwa⟩ : ∃ wa, wa = w.alloc (.cells #[.int .i64 1, .int .i64 5] 43) := ⟨_, rfl⟩
  have ba : Below w.heap.size w wa := by rw [hwa]; exact (Below.refl _ _).alloc (Nat.le_refl _) _
  have hv : VecAt MarkS wa (some ⟨w.heap.size, 0, none⟩) 1 1 [(1, 5)] := by
    rw [hwa]
    exact VecAt.ofOwn (S := MarkS) (World.ownsRow_lit (base := w.heap.size) (e := 43) (size := 2) w #[.int .i64 1, .int .i64 5] 1 (Nat.le_refl _) (by unfold maxLen; omega) rfl) rfl (fun _ _ => trivial)
  have HAP := Lib.hid (apply_fix hv)
  have HBA := Lib.hid ba
  have HWA := Lib.hid hwa
  clear hwa ba hv
  go_enter Tryz.func6, Tryz.ntmps6
  go_wp2_with fail
  rw [← HWA.out]
  refine HAP.out.mono ?_
  rintro e w1 ⟨ea, ec, g1, c1, g2, c2, rfl, hm, ho, hb1⟩
  obtain ⟨w2, hw2⟩ : ∃ w2, w2 = w1.alloc (.cells #[.int .i64 1, .int .i64 0, .int .i64 0, .slice ea 0 ec, .slice (some ⟨g1, 0, none⟩) 1 c1, .slice (some ⟨g2, 0, none⟩) 1 c2] 26) := ⟨_, rfl⟩
  have hb2 : Below w1.heap.size w1 w2 := by rw [hw2]; exact (Below.refl _ _).alloc (Nat.le_refl _) _
  have hg2 : w2.heap[w1.heap.size]? = some (.cells #[.int .i64 1, .int .i64 0, .int .i64 0, .slice ea 0 ec, .slice (some ⟨g1, 0, none⟩) 1 c1, .slice (some ⟨g2, 0, none⟩) 1 c2] 26 (0, 0)) := by rw [hw2]; exact heap_alloc_new _ _
  have HB2 := Lib.hid ((HBA.out.trans (hb1.mono HBA.out.size)).trans (hb2.mono (HBA.out.trans (hb1.mono HBA.out.size)).size))
  have HG2 := Lib.hid hg2
  have HM2 := Lib.hid (hm.kept hb2)
  have HO2 := Lib.hid (ho.kept hb2)
  have HW2 := Lib.hid hw2
  have HMK := Lib.hid (mark_any (w := w2) (s := 1) (d := 0) (hz := 0) (ea := ea) (en := 0) (ec := ec) (oa := some ⟨g2, 0, none⟩) (on := 1) (oc := c2) HM2.out 1)
  clear hm ho hb1 hb2 hg2 hw2
  go_wp2_with fail
  rw [← HW2.out]
  refine HMK.out.mono ?_
  rintro e w3 ⟨he3, hb3⟩
  obtain rfl : e = .returned (.int .i64 5) := he3
  have hg3 := (hb3.block w1.heap.size (Array.getElem?_eq_some_iff.1 HG2.out).1).trans HG2.out
  have m0 : w3.cell? ⟨w1.heap.size, 0, none⟩ = some (.int .i64 1) := cell_blk hg3 rfl
  have m1 : w3.cell? ⟨w1.heap.size, 1, none⟩ = some (.int .i64 0) := cell_blk hg3 rfl
  have m2 : w3.cell? ⟨w1.heap.size, 2, none⟩ = some (.int .i64 0) := cell_blk hg3 rfl
  have m3 : w3.cell? ⟨w1.heap.size, 3, none⟩ = some (.slice ea 0 ec) := cell_blk hg3 rfl
  have m4 : w3.cell? ⟨w1.heap.size, 4, none⟩ = some (.slice (some ⟨g1, 0, none⟩) 1 c1) := cell_blk hg3 rfl
  have m5 : w3.cell? ⟨w1.heap.size, 5, none⟩ = some (.slice (some ⟨g2, 0, none⟩) 1 c2) := cell_blk hg3 rfl
  have HB3 := Lib.hid (HB2.out.trans (hb3.mono HB2.out.size))
  have HDI := Lib.hid (did_any (w := w3) (s := 1) (d := 0) (hz := 0) (ea := ea) (en := 0) (ec := ec) (ma := some ⟨g1, 0, none⟩) (mn := 1) (mc := c1) (HO2.out.kept hb3) 1 1 1)
  clear hb3 hg3
  go_wp2_with fail
  refine HDI.out.mono ?_
  rintro e w4 ⟨he4, hb4⟩
  obtain rfl : e = .returned (.bool true) := he4
  have HB4 := Lib.hid (HB3.out.trans (hb4.mono HB3.out.size))
  clear hb4
  go_wp2_with fail
  go_ret
  exact ⟨rfl, HB4.out⟩

set_option maxRecDepth 100000 in
set_option maxHeartbeats 4000000 in
theorem few_any {w : World} {s d hz : Int} {ea ma oa : Option Addr} {en ec mn mc on oc : Nat} {l : List EntV} (h : VecAt EntS w ea en ec l) :
    Calls Tryz.prog 7 #[.agg #[.int .i64 s, .int .i64 d, .int .i64 hz, .slice ea en ec, .slice ma mn mc, .slice oa on oc]] w fun e w' => BoolIs e ∧ Below w.heap.size w w' := by
  have hcap := h.cap
  have hcm := h.capm
  have HH := Lib.hid h
  obtain ⟨wb, hwb⟩ : ∃ wb, wb = w.alloc (.cells #[.int .i64 s, .int .i64 d, .int .i64 hz, .slice ea en ec, .slice ma mn mc, .slice oa on oc] 26) := ⟨_, rfl⟩
  have bb : Below w.heap.size w wb := by rw [hwb]; exact (Below.refl _ _).alloc (Nat.le_refl _) _
  have ga : wb.heap[w.heap.size]? = some (.cells #[.int .i64 s, .int .i64 d, .int .i64 hz, .slice ea en ec, .slice ma mn mc, .slice oa on oc] 26 (0, 0)) := by rw [hwb]; exact heap_alloc_new _ _
  have HBB := Lib.hid bb
  have HWB := Lib.hid (show w.alloc (.cells #[.int .i64 s, .int .i64 d, .int .i64 hz, .slice ea en ec, .slice ma mn mc, .slice oa on oc] 26) = wb from hwb.symm)
  have m0 : wb.cell? ⟨w.heap.size, 0, none⟩ = some (.int .i64 s) := cell_blk ga rfl
  have m1 : wb.cell? ⟨w.heap.size, 1, none⟩ = some (.int .i64 d) := cell_blk ga rfl
  have m2 : wb.cell? ⟨w.heap.size, 2, none⟩ = some (.int .i64 hz) := cell_blk ga rfl
  have m3 : wb.cell? ⟨w.heap.size, 3, none⟩ = some (.slice ea en ec) := cell_blk ga rfl
  have m4 : wb.cell? ⟨w.heap.size, 4, none⟩ = some (.slice ma mn mc) := cell_blk ga rfl
  have m5 : wb.cell? ⟨w.heap.size, 5, none⟩ = some (.slice oa on oc) := cell_blk ga rfl
  clear hwb bb ga h
  go_enter Tryz.func7, Tryz.ntmps7
  by_cases b1 : (en : Int) > 300
  · go_wp2_with fail
    first | go_ret | (rw [HWB.out]; go_wp2_with fail; go_ret)
    exact ⟨⟨_, rfl⟩, by first | exact HBB.out | (rw [HWB.out]; exact HBB.out)⟩
  by_cases b2 : (mn : Int) > 100
  · go_wp2_with fail
    first | go_ret | (rw [HWB.out]; go_wp2_with fail; go_ret)
    exact ⟨⟨_, rfl⟩, by first | exact HBB.out | (rw [HWB.out]; exact HBB.out)⟩
  by_cases b3 : (on : Int) > 20
  · go_wp2_with fail
    first | go_ret | (rw [HWB.out]; go_wp2_with fail; go_ret)
    exact ⟨⟨_, rfl⟩, by first | exact HBB.out | (rw [HWB.out]; exact HBB.out)⟩
  go_wp2_with fail
  rw [HWB.out]
  clear m0 m1 m2 m3 m4 m5 b2 b3
  go_loopw [4, 24] (fun _ s24 wr => ∃ k : Nat, k ≤ en ∧ s24 = .int .i64 (k : Int) ∧ Hid (Below wb.heap.size wb wr)) (fun _ s24 _ => en - (intOf s24).toNat)
  case atStart => exact ⟨0, by omega, rfl, Lib.hid (Below.refl _ _)⟩
  case round =>
    obtain ⟨k, hk, rfl, HB⟩ := hrel
    rename World => wr
    by_cases hkn : k < en
    · have hki : (k : Int) < (en : Int) := by omega
      obtain ⟨sb, so, rfl, hsl, _, hsc9⟩ := (HH.out.kept (HBB.out.trans (HB.out.mono HBB.out.size))).get hkn
      generalize l.getD k EntS.z = sx at hsc9
      obtain ⟨x0, x1, x2, x3, x4, x5, x6, x7, x8⟩ := sx
      have d0 : wr.cell? ⟨sb, so + k * 9, none⟩ = some (.string x0) := hsc9 0 _ rfl
      have d1 : wr.cell? ⟨sb, so + k * 9 + 1, none⟩ = some (.int .i64 x1) := hsc9 1 _ rfl
      have d2 : wr.cell? ⟨sb, so + k * 9 + 2, none⟩ = some (.string x2) := hsc9 2 _ rfl
      have d3 : wr.cell? ⟨sb, so + k * 9 + 3, none⟩ = some (.int .i64 x3) := hsc9 3 _ rfl
      have d4 : wr.cell? ⟨sb, so + k * 9 + 4, none⟩ = some (.int .i64 x4) := hsc9 4 _ rfl
      have d5 : wr.cell? ⟨sb, so + k * 9 + 5, none⟩ = some (.int .i64 x5) := hsc9 5 _ rfl
      have d6 : wr.cell? ⟨sb, so + k * 9 + 6, none⟩ = some (.int .i64 x6) := hsc9 6 _ rfl
      have d7 : wr.cell? ⟨sb, so + k * 9 + 7, none⟩ = some (.int .u32 x7) := hsc9 7 _ rfl
      have d8 : wr.cell? ⟨sb, so + k * 9 + 8, none⟩ = some (.int .i64 x8) := hsc9 8 _ rfl
      have HAL := Lib.hid (show Below wb.heap.size wb (wr.alloc (.cells #[.string x0, .int .i64 x1, .string x2, .int .i64 x3, .int .i64 x4, .int .i64 x5, .int .i64 x6, .int .u32 x7, .int .i64 x8] 53)) from HB.out.alloc HB.out.size _)
      have HE := Lib.hid (show Below w.heap.size w (wr.alloc (.cells #[.string x0, .int .i64 x1, .string x2, .int .i64 x3, .int .i64 x4, .int .i64 x5, .int .i64 x6, .int .u32 x7, .int .i64 x8] 53)) from HBB.out.trans (HAL.out.mono HBB.out.size))
      clear hsc9 hsl
      by_cases q1 : (x0.size : Int) > 100
      · go_wp2_with fail
        go_ret
        exact ⟨⟨_, rfl⟩, HE.out⟩
      by_cases q2 : (x2.size : Int) > 1200
      · go_wp2_with fail
        go_ret
        exact ⟨⟨_, rfl⟩, HE.out⟩
      go_wp2_with fail
      go_roundw
      case rel => exact ⟨k + 1, by omega, by go_num, HAL⟩
      case measure => simp [intOf]; omega
    · obtain rfl : en = k := by omega
      have HE := Lib.hid (HBB.out.trans (HB.out.mono HBB.out.size))
      clear hkn
      go_wp2_with fail
      go_ret
      exact ⟨⟨_, rfl⟩, HE.out⟩


end Go.Proofs.YtbdgcfimbblncaaGreatDoor
end PkMC9_1
section PkMC9_2
/- Manifests: few, and what it says. Written by genmfj.py. -/
namespace Go.Proofs.YtbdgcfimbblncaaGreatDoor
open Go.RowKit LabPlain
set_option linter.unusedVariables false

def FewIs (en mn on : Nat) (l : List EntV) (e : Ending) : Prop := ∃ b : Bool, e = .returned (.bool b) ∧ (b = true → en ≤ 300 ∧ mn ≤ 100 ∧ on ≤ 20 ∧ ∀ j, j < en → (l.getD j EntS.z).key.size ≤ 100 ∧ (l.getD j EntS.z).part.size ≤ 1200)
theorem FewIs.no {en mn on : Nat} {l : List EntV} : FewIs en mn on l (.returned (.bool false)) := ⟨false, rfl, fun e => (by cases e)⟩
theorem FewIs.all {en : Nat} {w : World} {a : Option Addr} {c : Nat} {l : List EntV} (h : VecAt EntS w a en c l) (hf : ∀ j, j < en → (l.getD j EntS.z).key.size ≤ 100 ∧ (l.getD j EntS.z).part.size ≤ 1200) : ∀ x ∈ l, x.key.size ≤ 100 ∧ x.part.size ≤ 1200 := fun x hx => by
  obtain ⟨j, hj, e⟩ := List.getElem_of_mem hx
  have e2 : l.getD j EntS.z = x := by simp [hj, e]
  rw [← e2]
  exact hf j (by rw [← h.len]; exact hj)
set_option maxRecDepth 100000 in
set_option maxHeartbeats 4000000 in
theorem few_says {w : World} {s d hz : Int} {ea ma oa : Option Addr} {en ec mn mc on oc : Nat} {l : List EntV} (h : VecAt EntS w ea en ec l) :
    Calls Tryz.prog 7 #[.agg #[.int .i64 s, .int .i64 d, .int .i64 hz, .slice ea en ec, .slice ma mn mc, .slice oa on oc]] w fun e w' => FewIs en mn on l e ∧ Below w.heap.size w w' := by
  have hcap := h.cap
  have hcm := h.capm
  have HH := Lib.hid h
  obtain ⟨wb, hwb⟩ : ∃ wb, wb = w.alloc (.cells #[.int .i64 s, .int .i64 d, .int .i64 hz, .slice ea en ec, .slice ma mn mc, .slice oa on oc] 26) := ⟨_, rfl⟩
  have bb : Below w.heap.size w wb := by rw [hwb]; exact (Below.refl _ _).alloc (Nat.le_refl _) _
  have ga : wb.heap[w.heap.size]? = some (.cells #[.int .i64 s, .int .i64 d, .int .i64 hz, .slice ea en ec, .slice ma mn mc, .slice oa on oc] 26 (0, 0)) := by rw [hwb]; exact heap_alloc_new _ _
  have HBB := Lib.hid bb
  have HWB := Lib.hid (show w.alloc (.cells #[.int .i64 s, .int .i64 d, .int .i64 hz, .slice ea en ec, .slice ma mn mc, .slice oa on oc] 26) = wb from hwb.symm)
  have m0 : wb.cell? ⟨w.heap.size, 0, none⟩ = some (.int .i64 s) := cell_blk ga rfl
  have m1 : wb.cell? ⟨w.heap.size, 1, none⟩ = some (.int .i64 d) := cell_blk ga rfl
  have m2 : wb.cell? ⟨w.heap.size, 2, none⟩ = some (.int .i64 hz) := cell_blk ga rfl
  have m3 : wb.cell? ⟨w.heap.size, 3, none⟩ = some (.slice ea en ec) := cell_blk ga rfl
  have m4 : wb.cell? ⟨w.heap.size, 4, none⟩ = some (.slice ma mn mc) := cell_blk ga rfl
  have m5 : wb.cell? ⟨w.heap.size, 5, none⟩ = some (.slice oa on oc) := cell_blk ga rfl
  clear hwb bb ga h
  go_enter Tryz.func7, Tryz.ntmps7
  by_cases b1 : (en : Int) > 300
  · go_wp2_with fail
    first | go_ret | (rw [HWB.out]; go_wp2_with fail; go_ret)
    exact ⟨FewIs.no, by first | exact HBB.out | (rw [HWB.out]; exact HBB.out)⟩
  by_cases b2 : (mn : Int) > 100
  · go_wp2_with fail
    first | go_ret | (rw [HWB.out]; go_wp2_with fail; go_ret)
    exact ⟨FewIs.no, by first | exact HBB.out | (rw [HWB.out]; exact HBB.out)⟩
  by_cases b3 : (on : Int) > 20
  · go_wp2_with fail
    first | go_ret | (rw [HWB.out]; go_wp2_with fail; go_ret)
    exact ⟨FewIs.no, by first | exact HBB.out | (rw [HWB.out]; exact HBB.out)⟩
  have HS := Lib.hid (show en ≤ 300 ∧ mn ≤ 100 ∧ on ≤ 20 from ⟨by omega, by omega, by omega⟩)
  go_wp2_with fail
  rw [HWB.out]
  clear m0 m1 m2 m3 m4 m5 b2 b3
  go_loopw [4, 24] (fun _ s24 wr => ∃ k : Nat, k ≤ en ∧ s24 = .int .i64 (k : Int) ∧ Hid (∀ j, j < k → (l.getD j EntS.z).key.size ≤ 100 ∧ (l.getD j EntS.z).part.size ≤ 1200) ∧ Hid (Below wb.heap.size wb wr)) (fun _ s24 _ => en - (intOf s24).toNat)
  case atStart => exact ⟨0, by omega, rfl, Lib.hid (fun j hj => by omega), Lib.hid (Below.refl _ _)⟩
  case round =>
    obtain ⟨k, hk, rfl, HN, HB⟩ := hrel
    rename World => wr
    by_cases hkn : k < en
    · have hki : (k : Int) < (en : Int) := by omega
      obtain ⟨sb, so, rfl, hsl, _, hsc9⟩ := (HH.out.kept (HBB.out.trans (HB.out.mono HBB.out.size))).get hkn
      obtain ⟨sx, hsx⟩ : ∃ sx, sx = l.getD k EntS.z := ⟨_, rfl⟩
      rw [← hsx] at hsc9
      have HSX := Lib.hid hsx
      obtain ⟨x0, x1, x2, x3, x4, x5, x6, x7, x8⟩ := sx
      have d0 : wr.cell? ⟨sb, so + k * 9, none⟩ = some (.string x0) := hsc9 0 _ rfl
      have d1 : wr.cell? ⟨sb, so + k * 9 + 1, none⟩ = some (.int .i64 x1) := hsc9 1 _ rfl
      have d2 : wr.cell? ⟨sb, so + k * 9 + 2, none⟩ = some (.string x2) := hsc9 2 _ rfl
      have d3 : wr.cell? ⟨sb, so + k * 9 + 3, none⟩ = some (.int .i64 x3) := hsc9 3 _ rfl
      have d4 : wr.cell? ⟨sb, so + k * 9 + 4, none⟩ = some (.int .i64 x4) := hsc9 4 _ rfl
      have d5 : wr.cell? ⟨sb, so + k * 9 + 5, none⟩ = some (.int .i64 x5) := hsc9 5 _ rfl
      have d6 : wr.cell? ⟨sb, so + k * 9 + 6, none⟩ = some (.int .i64 x6) := hsc9 6 _ rfl
      have d7 : wr.cell? ⟨sb, so + k * 9 + 7, none⟩ = some (.int .u32 x7) := hsc9 7 _ rfl
      have d8 : wr.cell? ⟨sb, so + k * 9 + 8, none⟩ = some (.int .i64 x8) := hsc9 8 _ rfl
      have HAL := Lib.hid (show Below wb.heap.size wb (wr.alloc (.cells #[.string x0, .int .i64 x1, .string x2, .int .i64 x3, .int .i64 x4, .int .i64 x5, .int .i64 x6, .int .u32 x7, .int .i64 x8] 53)) from HB.out.alloc HB.out.size _)
      have HE := Lib.hid (show Below w.heap.size w (wr.alloc (.cells #[.string x0, .int .i64 x1, .string x2, .int .i64 x3, .int .i64 x4, .int .i64 x5, .int .i64 x6, .int .u32 x7, .int .i64 x8] 53)) from HBB.out.trans (HAL.out.mono HBB.out.size))
      clear hsc9 hsl hsx
      by_cases q1 : (x0.size : Int) > 100
      · go_wp2_with fail
        go_ret
        exact ⟨FewIs.no, HE.out⟩
      by_cases q2 : (x2.size : Int) > 1200
      · go_wp2_with fail
        go_ret
        exact ⟨FewIs.no, HE.out⟩
      have HN2 := Lib.hid (show ∀ j, j < k + 1 → (l.getD j EntS.z).key.size ≤ 100 ∧ (l.getD j EntS.z).part.size ≤ 1200 from fun j hj => by
        rcases Nat.lt_or_ge j k with g | g
        · exact HN.out j g
        · rw [show j = k from by omega, ← HSX.out]
          exact ⟨by show x0.size ≤ 100; omega, by show x2.size ≤ 1200; omega⟩)
      go_wp2_with fail
      go_roundw
      case rel => exact ⟨k + 1, by omega, by go_num, HN2, HAL⟩
      case measure => simp [intOf]; omega
    · obtain rfl : en = k := by omega
      have HE := Lib.hid (HBB.out.trans (HB.out.mono HBB.out.size))
      have HY := Lib.hid (show FewIs en mn on l (.returned (.bool true)) from ⟨true, rfl, fun _ => ⟨HS.out.1, HS.out.2.1, HS.out.2.2, HN.out⟩⟩)
      clear hkn
      go_wp2_with fail
      go_ret
      exact ⟨HY.out, HE.out⟩
end Go.Proofs.YtbdgcfimbblncaaGreatDoor
end PkMC9_2
