/- Texts put together by packtpl2.py: MfH. -/
import Derived.Test.YtbdgcfimbblncaaGreatDoorPkMR4
section PkMR15_0
/- Manifests: what one holds, looked up by both sides, walked. Written by genmfh.py. -/
namespace Go.Proofs.YtbdgcfimbblncaaGreatDoor
open Go.RowKit LabPlain
set_option linter.unusedVariables false

theorem any_at {α : Type} (p : α → Bool) (d : α) : ∀ (l : List α) (k : Nat), k < l.length → p (l.getD k d) = true → l.any p = true
  | x :: l, 0, _, h => by simp at h; simp [h]
  | x :: l, k + 1, hk, h => by
    rw [List.any_cons, any_at p d l k (by simpa using hk) (by simpa using h), Bool.or_true]
theorem any_no {α : Type} (p : α → Bool) (d : α) : ∀ (l : List α), (∀ j, j < l.length → p (l.getD j d) = false) → l.any p = false
  | [], _ => rfl
  | x :: l, h => by
    have hx : p x = false := by simpa using h 0 (by simp)
    rw [List.any_cons, hx, any_no p d l (fun j hj => by simpa using h (j + 1) (by simpa using hj))]
    rfl
/-- an upload that an agent did -/
def didp (y0 y1 y2 : Int) (x : Int × Int × Int) : Bool := decide (x.1 = y0) && decide (x.2.1 = y1) && decide (y2 ≤ x.2.2)
def DidIs (l : List (Int × Int × Int)) (y0 y1 y2 : Int) (e : Ending) : Prop := e = .returned (.bool (l.any (didp y0 y1 y2)))
def IndexIs (l : List (Int × Int × Int)) (y0 y1 y2 : Int) (e : Ending) : Prop := ∃ z : Int, e = .returned (.int .i64 z) ∧ decide (z ≥ 0) = l.any (didp y0 y1 y2)
def FindAt (l : List EntV) (key : ByteArray) (n : Nat) (e : Ending) : Prop := ∃ z : Int, e = .returned (.int .i64 z) ∧ ((∃ k : Nat, z = k ∧ k < n ∧ l.find? (fun x => decide (x.key = key)) = some (l.getD k EntS.z)) ∨ (z = -1 ∧ l.find? (fun x => decide (x.key = key)) = none))

set_option maxRecDepth 100000 in
set_option maxHeartbeats 2000000 in
theorem didc_any {w : World} {p : Nat} {y0 y1 y2 : Int} (hp : p < w.heap.size) (h0 : w.cell? ⟨p, 0, none⟩ = some (.int .i64 y0)) (h1 : w.cell? ⟨p, 1, none⟩ = some (.int .i64 y1)) (h2 : w.cell? ⟨p, 2, none⟩ = some (.int .i64 y2)) (x0 x1 x2 : Int) :
    Calls Tryz.prog 76 #[.agg #[.int .i64 x0, .int .i64 x1, .int .i64 x2], .pointer (some ⟨p, 0, none⟩)] w fun e w' => e = .returned (.bool (didp y0 y1 y2 (x0, x1, x2))) ∧ Below w.heap.size w w' := by
  have HB := Lib.hid ((Below.refl w.heap.size w).alloc (Nat.le_refl _) (.cells #[.int .i64 x0, .int .i64 x1, .int .i64 x2] 45))
  go_enter Tryz.func76, Tryz.ntmps76
  by_cases e0 : x0 = y0
  · have b0 : (x0 == y0) = true := beq_iff_eq.2 e0
    by_cases e1 : x1 = y1
    · have b1 : (x1 == y1) = true := beq_iff_eq.2 e1
      by_cases e2 : y2 ≤ x2
      · have HD := Lib.hid (show didp y0 y1 y2 (x0, x1, x2) = true from by simp [didp, e0, e1, e2])
        clear e0 e1
        go_wp2_with fail
        go_ret
        exact ⟨by rw [HD.out]; rfl, HB.out⟩
      · have HD := Lib.hid (show didp y0 y1 y2 (x0, x1, x2) = false from by simp [didp, e2])
        clear e0 e1
        go_wp2_with fail
        go_ret
        exact ⟨by rw [HD.out]; rfl, HB.out⟩
    · have b1 : (x1 == y1) = false := beq_eq_false_iff_ne.2 e1
      have HD := Lib.hid (show didp y0 y1 y2 (x0, x1, x2) = false from by simp [didp, e1])
      clear e0 e1
      go_wp2_with fail
      go_ret
      exact ⟨by rw [HD.out]; rfl, HB.out⟩
  · have b0 : (x0 == y0) = false := beq_eq_false_iff_ne.2 e0
    have HD := Lib.hid (show didp y0 y1 y2 (x0, x1, x2) = false from by simp [didp, e0])
    clear e0
    go_wp2_with fail
    go_ret
    exact ⟨by rw [HD.out]; rfl, HB.out⟩

set_option maxRecDepth 100000 in
set_option maxHeartbeats 4000000 in
theorem index_any {w : World} {p : Nat} {y0 y1 y2 : Int} {oa : Option Addr} {on oc : Nat} {l : List (Int × Int × Int)} (hp : p < w.heap.size) (h0 : w.cell? ⟨p, 0, none⟩ = some (.int .i64 y0)) (h1 : w.cell? ⟨p, 1, none⟩ = some (.int .i64 y1)) (h2 : w.cell? ⟨p, 2, none⟩ = some (.int .i64 y2)) (h : VecAt OwnS w oa on oc l) :
    Calls Tryz.prog 108 #[.slice oa on oc, .func (.func 76) #[] #[.pointer (some ⟨p, 0, none⟩)]] w fun e w' => IndexIs l y0 y1 y2 e ∧ Below w.heap.size w w' := by
  have hcap := h.cap
  have hcm := h.capm
  have HH := Lib.hid h
  have HL := Lib.hid h.len
  have HP := Lib.hid hp
  have H0 := Lib.hid h0
  have H1 := Lib.hid h1
  have H2 := Lib.hid h2
  clear h hp h0 h1 h2
  go_enter Tryz.func108, Tryz.ntmps108
  go_wp2_with fail
  go_loopw [5, 8] (fun _ s8 wr => ∃ k : Nat, k ≤ on ∧ s8 = .int .i64 (k : Int) ∧ Hid (∀ j, j < k → didp y0 y1 y2 (l.getD j OwnS.z) = false) ∧ Hid (Below w.heap.size w wr)) (fun _ s8 _ => on - (intOf s8).toNat)
  case atStart => exact ⟨0, by omega, rfl, Lib.hid (fun j hj => by omega), Lib.hid (Below.refl _ _)⟩
  case round =>
    obtain ⟨k, hk, rfl, HN, HB⟩ := hrel
    rename World => wr
    by_cases hkn : k < on
    · have hki : (k : Int) < (on : Int) := by omega
      obtain ⟨sb, so, rfl, hsl, _, hsc9⟩ := (HH.out.kept HB.out).get hkn
      obtain ⟨s, hse⟩ : ∃ s, s = l.getD k OwnS.z := ⟨_, rfl⟩
      rw [← hse] at hsc9
      have HSE := Lib.hid hse
      obtain ⟨x0, x1, x2⟩ := s
      have d0 : wr.cell? ⟨sb, so + k * 3, none⟩ = some (.int .i64 x0) := hsc9 0 _ rfl
      have d1 : wr.cell? ⟨sb, so + k * 3 + 1, none⟩ = some (.int .i64 x1) := hsc9 1 _ rfl
      have d2 : wr.cell? ⟨sb, so + k * 3 + 2, none⟩ = some (.int .i64 x2) := hsc9 2 _ rfl
      have HCM := Lib.hid (didc_any (w := wr) (Nat.lt_of_lt_of_le HP.out HB.out.size) ((HB.out.cell (p := ⟨p, 0, none⟩) HP.out).trans H0.out) ((HB.out.cell (p := ⟨p, 1, none⟩) HP.out).trans H1.out) ((HB.out.cell (p := ⟨p, 2, none⟩) HP.out).trans H2.out) x0 x1 x2)
      clear hsc9 hse hsl
      go_wp2_with fail
      refine HCM.out.mono ?_
      rintro e w3 ⟨rfl, hb3⟩
      have HB3 := Lib.hid (HB.out.trans (hb3.mono HB.out.size))
      clear hb3
      cases hd : didp y0 y1 y2 (x0, x1, x2) with
      | true =>
        have HD := Lib.hid hd
        clear hd
        go_wp2_with fail
        go_ret
        exact ⟨⟨k, rfl, by rw [any_at (didp y0 y1 y2) OwnS.z l k (by rw [HL.out]; exact hkn) (by rw [← HSE.out]; exact HD.out)]; exact decide_eq_true (by omega)⟩, HB3.out⟩
      | false =>
        have HN2 := Lib.hid (show ∀ j, j < k + 1 → didp y0 y1 y2 (l.getD j OwnS.z) = false from fun j hj => by
          rcases Nat.lt_or_ge j k with g | g
          · exact HN.out j g
          · rw [show j = k from by omega, ← HSE.out]; exact hd)
        clear hd
        go_wp2_with fail
        go_roundw
        case rel => exact ⟨k + 1, by omega, by go_num, HN2, HB3⟩
        case measure => simp [intOf]; omega
    · obtain rfl : on = k := by omega
      clear hkn
      go_wp2_with fail
      go_ret
      exact ⟨⟨-1, rfl, by rw [any_no (didp y0 y1 y2) OwnS.z l (by rw [HL.out]; exact HN.out)]; rfl⟩, HB.out⟩
set_option maxRecDepth 100000 in
theorem contains_any {w : World} {p : Nat} {y0 y1 y2 : Int} {oa : Option Addr} {on oc : Nat} {l : List (Int × Int × Int)} (hp : p < w.heap.size) (h0 : w.cell? ⟨p, 0, none⟩ = some (.int .i64 y0)) (h1 : w.cell? ⟨p, 1, none⟩ = some (.int .i64 y1)) (h2 : w.cell? ⟨p, 2, none⟩ = some (.int .i64 y2)) (h : VecAt OwnS w oa on oc l) :
    Calls Tryz.prog 75 #[.slice oa on oc, .func (.func 76) #[] #[.pointer (some ⟨p, 0, none⟩)]] w fun e w' => DidIs l y0 y1 y2 e ∧ Below w.heap.size w w' := by
  have HI := Lib.hid (index_any hp h0 h1 h2 h)
  clear hp h0 h1 h2 h
  go_enter Tryz.func75, Tryz.ntmps75
  go_wp2_with fail
  refine HI.out.mono ?_
  rintro e w1 ⟨⟨z, rfl, hz⟩, hb⟩
  have HB := Lib.hid hb
  have HZ := Lib.hid hz
  clear hb hz
  go_wp2_with fail
  go_ret
  exact ⟨by unfold DidIs; rw [← HZ.out]; rfl, HB.out⟩
set_option maxRecDepth 100000 in
set_option maxHeartbeats 2000000 in
theorem did_any {w : World} {s d hz : Int} {ea ma oa : Option Addr} {en ec mn mc on oc : Nat} {l : List (Int × Int × Int)} (h : VecAt OwnS w oa on oc l) (y0 y1 y2 : Int) :
    Calls Tryz.prog 20 #[.agg #[.int .i64 s, .int .i64 d, .int .i64 hz, .slice ea en ec, .slice ma mn mc, .slice oa on oc], .agg #[.int .i64 y0, .int .i64 y1, .int .i64 y2]] w fun e w' => DidIs l y0 y1 y2 e ∧ Below w.heap.size w w' := by
  obtain ⟨wa, hwa⟩ : ∃ wa, wa = w.alloc (.cells #[.int .i64 s, .int .i64 d, .int .i64 hz, .slice ea en ec, .slice ma mn mc, .slice oa on oc] 26) := ⟨_, rfl⟩
  obtain ⟨wb, hwb⟩ : ∃ wb, wb = wa.alloc (.cells #[.int .i64 y0, .int .i64 y1, .int .i64 y2] 45) := ⟨_, rfl⟩
  have sa : wa.heap.size = w.heap.size + 1 := by rw [hwa]; exact Array.size_push _
  have sb : wb.heap.size = w.heap.size + 2 := by rw [hwb]; show (wa.heap.push _).size = _; rw [Array.size_push, sa]
  have ba : Below w.heap.size w wa := by rw [hwa]; exact (Below.refl _ _).alloc (Nat.le_refl _) _
  have bb : Below w.heap.size w wb := by rw [hwb]; exact ba.alloc ba.size _
  have gb : wb.heap[w.heap.size + 1]? = some (.cells #[.int .i64 y0, .int .i64 y1, .int .i64 y2] 45 (0, 0)) := by rw [hwb, ← sa]; exact heap_alloc_new _ _
  have ga : wb.heap[w.heap.size]? = some (.cells #[.int .i64 s, .int .i64 d, .int .i64 hz, .slice ea en ec, .slice ma mn mc, .slice oa on oc] 26 (0, 0)) := by rw [hwb, hao9 _ _ _ (by omega), hwa]; exact heap_alloc_new _ _
  have HCT := Lib.hid (contains_any (w := wb) (p := w.heap.size + 1) (by omega) (cell_blk gb rfl) (cell_blk gb rfl) (cell_blk gb rfl) (h.kept bb))
  have HBB := Lib.hid bb
  have HWB := Lib.hid (show (w.alloc (.cells #[.int .i64 s, .int .i64 d, .int .i64 hz, .slice ea en ec, .slice ma mn mc, .slice oa on oc] 26)).alloc (.cells #[.int .i64 y0, .int .i64 y1, .int .i64 y2] 45) = wb from by rw [hwb, hwa])
  have c5 : wb.cell? ⟨w.heap.size, 5, none⟩ = some (.slice oa on oc) := cell_blk ga rfl
  clear hwa hwb sa sb ba bb gb ga h
  go_enter Tryz.func20, Tryz.ntmps20
  go_wp2_with fail
  rw [HWB.out]
  go_wp2_with fail
  refine HCT.out.mono ?_
  rintro e w1 ⟨hd, hb⟩
  obtain ⟨q, hq⟩ : ∃ q, q = l.any (didp y0 y1 y2) := ⟨_, rfl⟩
  obtain rfl : e = .returned (.bool q) := by rw [hq]; exact hd
  have HB := Lib.hid (HBB.out.trans (hb.mono HBB.out.size))
  have HQ := Lib.hid hq
  clear hb hd hq
  go_wp2_with fail
  go_ret
  exact ⟨by unfold DidIs; rw [← HQ.out]; rfl, HB.out⟩





end Go.Proofs.YtbdgcfimbblncaaGreatDoor
end PkMR15_0
