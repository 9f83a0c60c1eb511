/- Texts put together by packtpl2.py: MfQT. -/
import Derived.Test.YtbdgcfimbblncaaGreatDoorPkMR11
section PkMR12_0
/- Manifests: the document's Right, walked. Written by genmfqe.py. -/
namespace Go.Proofs.YtbdgcfimbblncaaGreatDoor
open Go.RowKit LabPlain
set_option linter.unusedVariables false

theorem owner_same (x : Int × Int × Int) : ownerB x = isOwnB x := by
  unfold ownerB isOwnB numB withinB
  rfl
theorem mark_same (x : Int × Int) : markB x = isMarkB x := by
  unfold markB isMarkB numB withinB
  rfl
theorem RisIs.no_not {α : Type} {p : α → Bool} {cm : α → α → Int} {d : α} {l : List α} {k n : Nat} (hk : k < n) (h : ¬ (p (l.getD k d) = true ∧ (0 < k → cm (l.getD (k - 1) d) (l.getD k d) < 0))) : ¬ RisOk p cm d l n := fun g => h (g k hk)
theorem ris_marks {l : List (Int × Int)} {n : Nat} : RisOk markB (fun a b => a.1 - b.1) MarkS.z l n ↔ RisOk isMarkB (fun a b => cmp3 a.1 b.1) MarkS.z l n := by
  constructor
  · intro h j hj
    obtain ⟨h1, h2⟩ := h j hj
    exact ⟨by rw [← mark_same]; exact h1, fun g => (cmp3_lt9 _ _).2 (by have h3 : (l.getD (j - 1) MarkS.z).1 - (l.getD j MarkS.z).1 < 0 := h2 g; omega)⟩
  · intro h j hj
    obtain ⟨h1, h2⟩ := h j hj
    exact ⟨by rw [mark_same]; exact h1, fun g => by have h3 := (cmp3_lt9 _ _).1 (h2 g); show (l.getD (j - 1) MarkS.z).1 - (l.getD j MarkS.z).1 < 0; omega⟩

set_option maxRecDepth 100000 in
set_option maxHeartbeats 16000000 in
theorem rright_man {w : World} {s d hz : Int} {ea ma oa : Option Addr} {en ec mn mc on oc : Nat} {le : List EntV} {lm : List (Int × Int)} {lo : List (Int × Int × Int)} (hE : VecAt EntS w ea en ec le) (hM : VecAt MarkS w ma mn mc lm) (hO : VecAt OwnS w oa on oc lo) (hp : ∀ x ∈ le, x.part.size ≤ 1300) :
    Calls Tryz.prog 10 #[.agg #[.int .i64 s, .int .i64 d, .int .i64 hz, .slice ea en ec, .slice ma mn mc, .slice oa on oc]] w fun e w' => ManIs pfS s d hz en le mn lm on lo e ∧ Below w.heap.size w w' := by
  obtain ⟨wa, hwa⟩ : ∃ wa, wa = w.alloc (.cells #[.int .i64 s, .int .i64 d, .int .i64 hz, .slice ea en ec, .slice ma mn mc, .slice oa on oc] 26) := ⟨_, rfl⟩
  have ba : Below w.heap.size w wa := by rw [hwa]; exact (Below.refl _ _).alloc (Nat.le_refl _) _
  have ga : wa.heap[w.heap.size]? = some (.cells #[.int .i64 s, .int .i64 d, .int .i64 hz, .slice ea en ec, .slice ma mn mc, .slice oa on oc] 26 (0, 0)) := by rw [hwa]; exact heap_alloc_new _ _
  have q1 := hE.cap
  have q2 := hE.capm
  have q3 := hM.cap
  have q4 := hM.capm
  have q5 := hO.cap
  have q6 := hO.capm
  have HMF := Lib.hid (show ∀ x ∈ le, x.key.size ≤ 140737488355328 ∧ x.part.size ≤ 1300 from fun x hx => ⟨(hE.all x hx).1, hp x hx⟩)
  have HVE := Lib.hid hE
  have HVM := Lib.hid hM
  have HVO := Lib.hid hO
  obtain ⟨b0, hb0⟩ : ∃ b, b = numB s 0 := ⟨_, rfl⟩
  obtain ⟨b1, hb1⟩ : ∃ b, b = numB d 0 := ⟨_, rfl⟩
  obtain ⟨b2, hb2⟩ : ∃ b, b = numB hz 0 := ⟨_, rfl⟩
  have HW0 := Lib.hid (show ∀ W, Calls Tryz.prog 30 #[.int .i64 s, .int .i64 0] W fun e w' => e = .returned (.bool b0) ∧ w' = W from fun W => by rw [hb0]; exact rnum_any _ _ W)
  have HW1 := Lib.hid (show ∀ W, Calls Tryz.prog 30 #[.int .i64 d, .int .i64 0] W fun e w' => e = .returned (.bool b1) ∧ w' = W from fun W => by rw [hb1]; exact rnum_any _ _ W)
  have HW2 := Lib.hid (show ∀ W, Calls Tryz.prog 30 #[.int .i64 hz, .int .i64 0] W fun e w' => e = .returned (.bool b2) ∧ w' = W from fun W => by rw [hb2]; exact rnum_any _ _ W)
  have HN := Lib.hid (show IsMan pfS s d hz en le mn lm on lo → b0 = true ∧ b1 = true ∧ b2 = true ∧ en ≤ 256 from fun h => by
    have h1 := h.1
    simp only [withinB, Bool.and_eq_true, decide_eq_true_eq] at h1
    rw [hb0, hb1, hb2]
    simp only [numB, Bool.and_eq_true, decide_eq_true_eq]
    exact ⟨h1.1, h1.2.1, h1.2.2, h.2.1⟩)
  have HI1 := Lib.hid (show b0 = true → b1 = true → b2 = true → (withinB s 0 1099511627775 && (withinB d 0 1099511627775 && withinB hz 0 1099511627775)) = true from fun e0 e1 e2 => by
    rw [hb0] at e0
    rw [hb1] at e1
    rw [hb2] at e2
    simp only [numB, Bool.and_eq_true, decide_eq_true_eq] at e0 e1 e2
    simp only [withinB, Bool.and_eq_true, decide_eq_true_eq]
    exact ⟨e0, e1, e2⟩)
  have HRK := Lib.hid (rmarks_any (hM.kept ba))
  have HBA := Lib.hid ba
  have HGA := Lib.hid ga
  have HWA := Lib.hid hwa
  have a0 : wa.cell? ⟨w.heap.size, 0, none⟩ = some (.int .i64 s) := cell_blk' HGA.out rfl
  have a1 : wa.cell? ⟨w.heap.size, 1, none⟩ = some (.int .i64 d) := cell_blk' HGA.out rfl
  have a2 : wa.cell? ⟨w.heap.size, 2, none⟩ = some (.int .i64 hz) := cell_blk' HGA.out rfl
  have a3 : wa.cell? ⟨w.heap.size, 3, none⟩ = some (.slice ea en ec) := cell_blk' HGA.out rfl
  have a4 : wa.cell? ⟨w.heap.size, 4, none⟩ = some (.slice ma mn mc) := cell_blk' HGA.out rfl
  have a5 : wa.cell? ⟨w.heap.size, 5, none⟩ = some (.slice oa on oc) := cell_blk' HGA.out rfl
  clear hwa ba ga hb0 hb1 hb2 hE hM hO hp
  go_enter Tryz.func10, Tryz.ntmps10
  go_wp2_with fail
  rw [← HWA.out]
  refine (HW0.out _).mono ?_
  rintro e w2 ⟨rfl, rfl⟩
  cases b0 with
  | false =>
    go_wp2_with fail
    go_ret
    exact ⟨ManIs.no (fun h => by have := (HN.out h).1; cases this), HBA.out⟩
  | true =>
  go_wp2_with fail
  refine (HW1.out _).mono ?_
  rintro e w2 ⟨rfl, rfl⟩
  cases b1 with
  | false =>
    go_wp2_with fail
    go_ret
    exact ⟨ManIs.no (fun h => by have := (HN.out h).2.1; cases this), HBA.out⟩
  | true =>
  go_wp2_with fail
  refine (HW2.out _).mono ?_
  rintro e w2 ⟨rfl, rfl⟩
  cases b2 with
  | false =>
    go_wp2_with fail
    go_ret
    exact ⟨ManIs.no (fun h => by have := (HN.out h).2.2.1; cases this), HBA.out⟩
  | true =>
  by_cases g6 : (en : Int) > 256
  · go_wp2_with fail
    go_ret
    exact ⟨ManIs.no (fun h => by have := (HN.out h).2.2.2; omega), HBA.out⟩
  go_wp2_with fail
  refine HRK.out.mono ?_
  rintro e w1 ⟨⟨b3, rfl, hb3⟩, hbl⟩
  have HBM := Lib.hid (HBA.out.trans (hbl.mono HBA.out.size))
  have HM1 := Lib.hid ((hbl.block w.heap.size (Array.getElem?_eq_some_iff.1 HGA.out).1).trans HGA.out)
  have HM1L := Lib.hid (Array.getElem?_eq_some_iff.1 HM1.out).1
  have HB3 := Lib.hid hb3
  clear hbl hb3 a0 a1 a2 a3 a4 a5
  cases b3 with
  | false =>
    go_wp2_with fail
    go_ret
    exact ⟨ManIs.no (fun h => by have := HB3.out.2 (ris_marks.2 h.2.2.2.1); cases this), HBM.out⟩
  | true =>
  have HRM := Lib.hid (ris_marks.1 (HB3.out.1 (by first | rfl | trivial)))
  have HI0 := Lib.hid (show (withinB s 0 1099511627775 && (withinB d 0 1099511627775 && withinB hz 0 1099511627775)) = true ∧ en ≤ 256 from ⟨HI1.out (by first | rfl | trivial) (by first | rfl | trivial) (by first | rfl | trivial), by omega⟩)
  have f3 : w1.cell? ⟨w.heap.size, 3, none⟩ = some (.slice ea en ec) := cell_blk' HM1.out rfl
  go_wp2_with fail
  clear f3
  go_loopw [3, 4, 38] (fun _ _ sI wr => ∃ k : Nat, k ≤ en ∧ sI = .int .i64 (k : Int) ∧ Hid (RisOk (stayB pfS d) (fun a b => cmpS a.key b.key) EntS.z le k) ∧ Hid (Below w1.heap.size w1 wr)) (fun _ _ sI _ => en - (intOf sI).toNat)
  case atStart => exact ⟨0, by omega, rfl, Lib.hid (fun j hj => by omega), Lib.hid (Below.refl _ _)⟩
  case round =>
    obtain ⟨k, hk, rfl, HOK, HB⟩ := hrel
    rename World => wr
    by_cases hkn : k < en
    · have hki : (k : Int) < (en : Int) := by omega
      obtain ⟨sb, so, rfl, hsl, hok, hsc9⟩ := (HVE.out.kept (HBM.out.trans (HB.out.mono HBM.out.size))).get hkn
      obtain ⟨s9, hse⟩ : ∃ s9, s9 = le.getD k EntS.z := ⟨_, rfl⟩
      obtain ⟨r9, hre⟩ : ∃ r9, r9 = le.getD (k - 1) EntS.z := ⟨_, rfl⟩
      rw [← hse] at hsc9 hok
      have HSE := Lib.hid hse
      have HRE := Lib.hid hre
      have HSY := Lib.hid (show ∀ j u, (EntS.f r9)[j]? = some u → wr.cell? ⟨sb, so + (k - 1) * 9 + j, none⟩ = some u from by
        obtain ⟨sb2, so2, e2, _, _, hy⟩ := (HVE.out.kept (HBM.out.trans (HB.out.mono HBM.out.size))).get (show k - 1 < en by omega)
        cases e2
        rw [← hre] at hy
        exact hy)
      have HMX := Lib.hid (HMF.out s9 (by rw [hse]; exact vec_mem (S := EntS) (by rw [HVE.out.len]; exact hkn)))
      obtain ⟨x0, x1, x2, x3, x4, x5, x6, x7, x8⟩ := s9
      obtain ⟨y0, y1, y2, y3, y4, y5, y6, y7, y8⟩ := r9
      have d0 : wr.cell? ⟨sb, so + k * 9, none⟩ = some (.string x0) := hsc9 0 _ rfl
      have d1 : wr.cell? ⟨sb, so + k * 9 + 1, none⟩ = some (.int .i64 x1) := hsc9 1 _ rfl
      have d2 : wr.cell? ⟨sb, so + k * 9 + 2, none⟩ = some (.string x2) := hsc9 2 _ rfl
      have d3 : wr.cell? ⟨sb, so + k * 9 + 3, none⟩ = some (.int .i64 x3) := hsc9 3 _ rfl
      have d4 : wr.cell? ⟨sb, so + k * 9 + 4, none⟩ = some (.int .i64 x4) := hsc9 4 _ rfl
      have d5 : wr.cell? ⟨sb, so + k * 9 + 5, none⟩ = some (.int .i64 x5) := hsc9 5 _ rfl
      have d6 : wr.cell? ⟨sb, so + k * 9 + 6, none⟩ = some (.int .i64 x6) := hsc9 6 _ rfl
      have d7 : wr.cell? ⟨sb, so + k * 9 + 7, none⟩ = some (.int .u32 x7) := hsc9 7 _ rfl
      have d8 : wr.cell? ⟨sb, so + k * 9 + 8, none⟩ = some (.int .i64 x8) := hsc9 8 _ rfl
      have HXA := Lib.hid (heap_alloc_new wr (.cells #[.string x0, .int .i64 x1, .string x2, .int .i64 x3, .int .i64 x4, .int .i64 x5, .int .i64 x6, .int .u32 x7, .int .i64 x8] 53))
      have HXL := Lib.hid ((Array.getElem?_eq_some_iff.1 (heap_alloc_new wr (.cells #[.string x0, .int .i64 x1, .string x2, .int .i64 x3, .int .i64 x4, .int .i64 x5, .int .i64 x6, .int .u32 x7, .int .i64 x8] 53))).1)
      have HAL := Lib.hid (show Below w1.heap.size w1 (wr.alloc (.cells #[.string x0, .int .i64 x1, .string x2, .int .i64 x3, .int .i64 x4, .int .i64 x5, .int .i64 x6, .int .u32 x7, .int .i64 x8] 53)) from HB.out.alloc HB.out.size _)
      have HMA := Lib.hid ((HAL.out.block w.heap.size HM1L.out).trans HM1.out)
      have HML := Lib.hid (Nat.lt_of_lt_of_le HM1L.out HAL.out.size)
      obtain ⟨bx, hbx⟩ : ∃ bx, bx = entB ⟨x0, x1, x2, x3, x4, x5, x6, x7, x8⟩ (setIn x2).isSome := ⟨_, rfl⟩
      have HBX := Lib.hid hbx
      have HSLA := Lib.hid (show sb < (wr.alloc (.cells #[.string x0, .int .i64 x1, .string x2, .int .i64 x3, .int .i64 x4, .int .i64 x5, .int .i64 x6, .int .u32 x7, .int .i64 x8] 53)).heap.size from Nat.lt_of_lt_of_le hsl ((Below.refl wr.heap.size wr).alloc (Nat.le_refl _) _).size)
      have HSYA := Lib.hid (show ∀ j u, (EntS.f ⟨y0, y1, y2, y3, y4, y5, y6, y7, y8⟩)[j]? = some u → (wr.alloc (.cells #[.string x0, .int .i64 x1, .string x2, .int .i64 x3, .int .i64 x4, .int .i64 x5, .int .i64 x6, .int .u32 x7, .int .i64 x8] 53)).cell? ⟨sb, so + (k - 1) * 9 + j, none⟩ = some u from fun j u hu => (((Below.refl wr.heap.size wr).alloc (Nat.le_refl _) (.cells #[.string x0, .int .i64 x1, .string x2, .int .i64 x3, .int .i64 x4, .int .i64 x5, .int .i64 x6, .int .u32 x7, .int .i64 x8] 53)).cell (p := ⟨sb, so + (k - 1) * 9 + j, none⟩) hsl).trans (HSY.out j u hu))
      have HRX := Lib.hid (show ∀ W9, Below (wr.alloc (.cells #[.string x0, .int .i64 x1, .string x2, .int .i64 x3, .int .i64 x4, .int .i64 x5, .int .i64 x6, .int .u32 x7, .int .i64 x8] 53)).heap.size (wr.alloc (.cells #[.string x0, .int .i64 x1, .string x2, .int .i64 x3, .int .i64 x4, .int .i64 x5, .int .i64 x6, .int .u32 x7, .int .i64 x8] 53)) W9 → Calls Tryz.prog 32 #[.agg #[.string x0, .int .i64 x1, .string x2, .int .i64 x3, .int .i64 x4, .int .i64 x5, .int .i64 x6, .int .u32 x7, .int .i64 x8]] W9 fun e w' => e = .returned (.bool bx) ∧ Below W9.heap.size W9 w' from fun W9 hB => by
        rw [hbx]
        exact rentry_any x0 x1 x2 x3 x4 x5 x6 x7 x8 HMX.out.1 HMX.out.2)
      clear hsc9 hse hre hsl hok HSY
      have HSL := HSLA
      have HSY := HSYA
      clear HSLA HSYA
      go_wp2_with fail
      cases bx with
      | false =>
        have HNO := Lib.hid (ManIs.no (pf := pfS) (fun h => (RisIs.no_not hkn (fun g => by have h1 := g.1; rw [← HSE.out] at h1; simp only [stayB, pfS_is, Bool.and_eq_true] at h1; have h2 := h1.1; rw [← HBX.out] at h2; cases h2)) (h.2.2.1)) : ManIs pfS s d hz en le mn lm on lo (.returned (.bool false)))
        clear hbx
        refine wp_region_fill (by kernel_rfl) (by kernel_rfl) (by kernel_rfl) (Below (wr.alloc (.cells #[.string x0, .int .i64 x1, .string x2, .int .i64 x3, .int .i64 x4, .int .i64 x5, .int .i64 x6, .int .u32 x7, .int .i64 x8] 53)).heap.size (wr.alloc (.cells #[.string x0, .int .i64 x1, .string x2, .int .i64 x3, .int .i64 x4, .int .i64 x5, .int .i64 x6, .int .u32 x7, .int .i64 x8] 53))) (FV (fun j_9 => match j_9 with | 0 => some (.agg #[.string x0, .int .i64 x1, .string x2, .int .i64 x3, .int .i64 x4, .int .i64 x5, .int .i64 x6, .int .u32 x7, .int .i64 x8]) | 1 => some (.bool false) | 2 => some (.bool true) | 3 => some (.bool true) | 4 => some (undef) | 5 => some (undef) | 6 => some (undef) | 7 => some (undef) | 8 => some (undef) | 9 => some (.bool true) | 10 => some (.bool true) | 11 => some (undef) | 12 => some (undef) | 13 => some (undef) | 14 => some (undef) | 15 => some (undef) | 16 => some (undef) | 17 => some (undef) | 18 => some (undef) | 19 => some (undef) | 20 => some (undef) | 21 => some (undef) | 22 => some (undef) | 23 => some (undef) | 24 => some (undef) | 25 => some (.bool true) | _ => none) (fun _ _ => True)) (Below.refl _ _).drew ?_ ?_
        · intro i9 o ho V w9 K hJ hdep hK
          have HJ := Lib.hid hJ
          simp only [fill, slotOf, List.size_toArray, List.length_cons, List.length_nil, Nat.reduceAdd, List.getElem?_toArray, List.getElem?_cons_zero, List.getElem?_cons_succ, Option.bind_some, Act.put, List.setIfInBounds_toArray, List.set_cons_zero, List.set_cons_succ] at hK ⊢
          have hin : i9 < 26 := (Array.getElem?_eq_some_iff.1 ho).1
          have hcs : i9 = 0 ∨ i9 = 1 ∨ i9 = 2 ∨ i9 = 3 ∨ i9 = 4 ∨ i9 = 5 ∨ i9 = 6 ∨ i9 = 7 ∨ i9 = 8 ∨ i9 = 9 ∨ i9 = 10 ∨ i9 = 11 ∨ i9 = 12 ∨ i9 = 13 ∨ i9 = 14 ∨ i9 = 15 ∨ i9 = 16 ∨ i9 = 17 ∨ i9 = 18 ∨ i9 = 19 ∨ i9 = 20 ∨ i9 = 21 ∨ i9 = 22 ∨ i9 = 23 ∨ i9 = 24 ∨ i9 = 25 := by omega
          clear hin
          rcases hcs with rfl | rfl | rfl | rfl | rfl | rfl | rfl | rfl | rfl | rfl | rfl | rfl | rfl | rfl | rfl | rfl | rfl | rfl | rfl | rfl | rfl | rfl | rfl | rfl | rfl | rfl
          · obtain rfl := Option.some.inj ho.symm
            have e0 : w9.cell? ⟨wr.heap.size, 0, none⟩ = some (.string x0) := (hJ.cell (p := ⟨wr.heap.size, 0, none⟩) HXL.out).trans (cell_blk' HXA.out rfl)
            have e1 : w9.cell? ⟨wr.heap.size, 1, none⟩ = some (.int .i64 x1) := (hJ.cell (p := ⟨wr.heap.size, 1, none⟩) HXL.out).trans (cell_blk' HXA.out rfl)
            have e2 : w9.cell? ⟨wr.heap.size, 2, none⟩ = some (.string x2) := (hJ.cell (p := ⟨wr.heap.size, 2, none⟩) HXL.out).trans (cell_blk' HXA.out rfl)
            have e3 : w9.cell? ⟨wr.heap.size, 3, none⟩ = some (.int .i64 x3) := (hJ.cell (p := ⟨wr.heap.size, 3, none⟩) HXL.out).trans (cell_blk' HXA.out rfl)
            have e4 : w9.cell? ⟨wr.heap.size, 4, none⟩ = some (.int .i64 x4) := (hJ.cell (p := ⟨wr.heap.size, 4, none⟩) HXL.out).trans (cell_blk' HXA.out rfl)
            have e5 : w9.cell? ⟨wr.heap.size, 5, none⟩ = some (.int .i64 x5) := (hJ.cell (p := ⟨wr.heap.size, 5, none⟩) HXL.out).trans (cell_blk' HXA.out rfl)
            have e6 : w9.cell? ⟨wr.heap.size, 6, none⟩ = some (.int .i64 x6) := (hJ.cell (p := ⟨wr.heap.size, 6, none⟩) HXL.out).trans (cell_blk' HXA.out rfl)
            have e7 : w9.cell? ⟨wr.heap.size, 7, none⟩ = some (.int .u32 x7) := (hJ.cell (p := ⟨wr.heap.size, 7, none⟩) HXL.out).trans (cell_blk' HXA.out rfl)
            have e8 : w9.cell? ⟨wr.heap.size, 8, none⟩ = some (.int .i64 x8) := (hJ.cell (p := ⟨wr.heap.size, 8, none⟩) HXL.out).trans (cell_blk' HXA.out rfl)
            clear hdep ho hJ
            try simp only [fill, slotOf, List.size_toArray, List.length_cons, List.length_nil, Nat.reduceAdd, List.getElem?_toArray, List.getElem?_cons_zero, List.getElem?_cons_succ, Option.bind_some, Act.put, List.setIfInBounds_toArray, List.set_cons_zero, List.set_cons_succ] at hK ⊢
            go_simp
            exact hK (.agg #[.string x0, .int .i64 x1, .string x2, .int .i64 x3, .int .i64 x4, .int .i64 x5, .int .i64 x6, .int .u32 x7, .int .i64 x8]) _ HJ.out rfl (fun j y h => h) _ rfl
          · obtain rfl := Option.some.inj ho.symm
            have d0 : V 0 = .agg #[.string x0, .int .i64 x1, .string x2, .int .i64 x3, .int .i64 x4, .int .i64 x5, .int .i64 x6, .int .u32 x7, .int .i64 x8] := hdep ⟨0, .data⟩ (by simp) rfl
            clear hdep ho hJ
            try simp only [fill, slotOf, List.size_toArray, List.length_cons, List.length_nil, Nat.reduceAdd, List.getElem?_toArray, List.getElem?_cons_zero, List.getElem?_cons_succ, Option.bind_some, Act.put, List.setIfInBounds_toArray, List.set_cons_zero, List.set_cons_succ] at hK ⊢
            rw [d0] at hK ⊢
            go_simp
            refine (HRX.out w9 HJ.out).mono ?_
            rintro e w8 ⟨rfl, hb8⟩
            exact hK (.bool false) _ (HJ.out.trans (hb8.mono HJ.out.size)) rfl (FV.mono ((fun _ _ _ => trivial) hb8)) _ rfl
          · obtain rfl := Option.some.inj ho.symm
            have d1 : V 1 = .bool false := hdep ⟨1, .data⟩ (by simp) rfl
            clear hdep ho hJ
            try simp only [fill, slotOf, List.size_toArray, List.length_cons, List.length_nil, Nat.reduceAdd, List.getElem?_toArray, List.getElem?_cons_zero, List.getElem?_cons_succ, Option.bind_some, Act.put, List.setIfInBounds_toArray, List.set_cons_zero, List.set_cons_succ] at hK ⊢
            rw [d1] at hK ⊢
            go_simp
            exact hK (.bool true) _ HJ.out rfl (fun j y h => h) _ rfl
          · obtain rfl := Option.some.inj ho.symm
            have d2 : V 2 = .bool true := hdep ⟨2, .data⟩ (by simp) rfl
            clear hdep ho hJ
            try simp only [fill, slotOf, List.size_toArray, List.length_cons, List.length_nil, Nat.reduceAdd, List.getElem?_toArray, List.getElem?_cons_zero, List.getElem?_cons_succ, Option.bind_some, Act.put, List.setIfInBounds_toArray, List.set_cons_zero, List.set_cons_succ] at hK ⊢
            rw [d2] at hK ⊢
            go_simp
            exact hK (.bool true) _ HJ.out rfl (fun j y h => h) _ rfl
          · obtain rfl := Option.some.inj ho.symm
            have d3 : V 3 = .bool true := hdep ⟨3, .guard⟩ (by simp) rfl
            clear hdep ho hJ
            try simp only [fill, slotOf, List.size_toArray, List.length_cons, List.length_nil, Nat.reduceAdd, List.getElem?_toArray, List.getElem?_cons_zero, List.getElem?_cons_succ, Option.bind_some, Act.put, List.setIfInBounds_toArray, List.set_cons_zero, List.set_cons_succ] at hK ⊢
            rw [d3] at hK ⊢
            go_simp
            exact hK (undef) _ HJ.out rfl (fun j y h => h) _ rfl
          · obtain rfl := Option.some.inj ho.symm
            have d3 : V 3 = .bool true := hdep ⟨3, .guard⟩ (by simp) rfl
            clear hdep ho hJ
            try simp only [fill, slotOf, List.size_toArray, List.length_cons, List.length_nil, Nat.reduceAdd, List.getElem?_toArray, List.getElem?_cons_zero, List.getElem?_cons_succ, Option.bind_some, Act.put, List.setIfInBounds_toArray, List.set_cons_zero, List.set_cons_succ] at hK ⊢
            rw [d3] at hK ⊢
            go_simp
            exact hK (undef) _ HJ.out rfl (fun j y h => h) _ rfl
          · obtain rfl := Option.some.inj ho.symm
            have d3 : V 3 = .bool true := hdep ⟨3, .guard⟩ (by simp) rfl
            clear hdep ho hJ
            try simp only [fill, slotOf, List.size_toArray, List.length_cons, List.length_nil, Nat.reduceAdd, List.getElem?_toArray, List.getElem?_cons_zero, List.getElem?_cons_succ, Option.bind_some, Act.put, List.setIfInBounds_toArray, List.set_cons_zero, List.set_cons_succ] at hK ⊢
            rw [d3] at hK ⊢
            go_simp
            exact hK (undef) _ HJ.out rfl (fun j y h => h) _ rfl
          · obtain rfl := Option.some.inj ho.symm
            have d3 : V 3 = .bool true := hdep ⟨3, .guard⟩ (by simp) rfl
            clear hdep ho hJ
            try simp only [fill, slotOf, List.size_toArray, List.length_cons, List.length_nil, Nat.reduceAdd, List.getElem?_toArray, List.getElem?_cons_zero, List.getElem?_cons_succ, Option.bind_some, Act.put, List.setIfInBounds_toArray, List.set_cons_zero, List.set_cons_succ] at hK ⊢
            rw [d3] at hK ⊢
            go_simp
            exact hK (undef) _ HJ.out rfl (fun j y h => h) _ rfl
          · obtain rfl := Option.some.inj ho.symm
            have d3 : V 3 = .bool true := hdep ⟨3, .guard⟩ (by simp) rfl
            clear hdep ho hJ
            try simp only [fill, slotOf, List.size_toArray, List.length_cons, List.length_nil, Nat.reduceAdd, List.getElem?_toArray, List.getElem?_cons_zero, List.getElem?_cons_succ, Option.bind_some, Act.put, List.setIfInBounds_toArray, List.set_cons_zero, List.set_cons_succ] at hK ⊢
            rw [d3] at hK ⊢
            go_simp
            exact hK (undef) _ HJ.out rfl (fun j y h => h) _ rfl
          · obtain rfl := Option.some.inj ho.symm
            have d3 : V 3 = .bool true := hdep ⟨3, .data⟩ (by simp) rfl
            clear hdep ho hJ
            try simp only [fill, slotOf, List.size_toArray, List.length_cons, List.length_nil, Nat.reduceAdd, List.getElem?_toArray, List.getElem?_cons_zero, List.getElem?_cons_succ, Option.bind_some, Act.put, List.setIfInBounds_toArray, List.set_cons_zero, List.set_cons_succ] at hK ⊢
            rw [d3] at hK ⊢
            go_simp
            exact hK (.bool true) _ HJ.out rfl (fun j y h => h) _ rfl
          · obtain rfl := Option.some.inj ho.symm
            have d9 : V 9 = .bool true := hdep ⟨9, .data⟩ (by simp) rfl
            clear hdep ho hJ
            try simp only [fill, slotOf, List.size_toArray, List.length_cons, List.length_nil, Nat.reduceAdd, List.getElem?_toArray, List.getElem?_cons_zero, List.getElem?_cons_succ, Option.bind_some, Act.put, List.setIfInBounds_toArray, List.set_cons_zero, List.set_cons_succ] at hK ⊢
            rw [d9] at hK ⊢
            go_simp
            exact hK (.bool true) _ HJ.out rfl (fun j y h => h) _ rfl
          · obtain rfl := Option.some.inj ho.symm
            have d10 : V 10 = .bool true := hdep ⟨10, .guard⟩ (by simp) rfl
            clear hdep ho hJ
            try simp only [fill, slotOf, List.size_toArray, List.length_cons, List.length_nil, Nat.reduceAdd, List.getElem?_toArray, List.getElem?_cons_zero, List.getElem?_cons_succ, Option.bind_some, Act.put, List.setIfInBounds_toArray, List.set_cons_zero, List.set_cons_succ] at hK ⊢
            rw [d10] at hK ⊢
            go_simp
            exact hK (undef) _ HJ.out rfl (fun j y h => h) _ rfl
          · obtain rfl := Option.some.inj ho.symm
            have d10 : V 10 = .bool true := hdep ⟨10, .guard⟩ (by simp) rfl
            clear hdep ho hJ
            try simp only [fill, slotOf, List.size_toArray, List.length_cons, List.length_nil, Nat.reduceAdd, List.getElem?_toArray, List.getElem?_cons_zero, List.getElem?_cons_succ, Option.bind_some, Act.put, List.setIfInBounds_toArray, List.set_cons_zero, List.set_cons_succ] at hK ⊢
            rw [d10] at hK ⊢
            go_simp
            exact hK (undef) _ HJ.out rfl (fun j y h => h) _ rfl
          · obtain rfl := Option.some.inj ho.symm
            have d10 : V 10 = .bool true := hdep ⟨10, .guard⟩ (by simp) rfl
            clear hdep ho hJ
            try simp only [fill, slotOf, List.size_toArray, List.length_cons, List.length_nil, Nat.reduceAdd, List.getElem?_toArray, List.getElem?_cons_zero, List.getElem?_cons_succ, Option.bind_some, Act.put, List.setIfInBounds_toArray, List.set_cons_zero, List.set_cons_succ] at hK ⊢
            rw [d10] at hK ⊢
            go_simp
            exact hK (undef) _ HJ.out rfl (fun j y h => h) _ rfl
          · obtain rfl := Option.some.inj ho.symm
            have d13 : V 13 = undef := hdep ⟨13, .guard⟩ (by simp) rfl
            clear hdep ho hJ
            try simp only [fill, slotOf, List.size_toArray, List.length_cons, List.length_nil, Nat.reduceAdd, List.getElem?_toArray, List.getElem?_cons_zero, List.getElem?_cons_succ, Option.bind_some, Act.put, List.setIfInBounds_toArray, List.set_cons_zero, List.set_cons_succ] at hK ⊢
            rw [d13] at hK ⊢
            go_simp
            exact hK (undef) _ HJ.out rfl (fun j y h => h) _ rfl
          · obtain rfl := Option.some.inj ho.symm
            have d13 : V 13 = undef := hdep ⟨13, .guard⟩ (by simp) rfl
            clear hdep ho hJ
            try simp only [fill, slotOf, List.size_toArray, List.length_cons, List.length_nil, Nat.reduceAdd, List.getElem?_toArray, List.getElem?_cons_zero, List.getElem?_cons_succ, Option.bind_some, Act.put, List.setIfInBounds_toArray, List.set_cons_zero, List.set_cons_succ] at hK ⊢
            rw [d13] at hK ⊢
            go_simp
            exact hK (undef) _ HJ.out rfl (fun j y h => h) _ rfl
          · obtain rfl := Option.some.inj ho.symm
            have d13 : V 13 = undef := hdep ⟨13, .guard⟩ (by simp) rfl
            clear hdep ho hJ
            try simp only [fill, slotOf, List.size_toArray, List.length_cons, List.length_nil, Nat.reduceAdd, List.getElem?_toArray, List.getElem?_cons_zero, List.getElem?_cons_succ, Option.bind_some, Act.put, List.setIfInBounds_toArray, List.set_cons_zero, List.set_cons_succ] at hK ⊢
            rw [d13] at hK ⊢
            go_simp
            exact hK (undef) _ HJ.out rfl (fun j y h => h) _ rfl
          · obtain rfl := Option.some.inj ho.symm
            have d13 : V 13 = undef := hdep ⟨13, .guard⟩ (by simp) rfl
            clear hdep ho hJ
            try simp only [fill, slotOf, List.size_toArray, List.length_cons, List.length_nil, Nat.reduceAdd, List.getElem?_toArray, List.getElem?_cons_zero, List.getElem?_cons_succ, Option.bind_some, Act.put, List.setIfInBounds_toArray, List.set_cons_zero, List.set_cons_succ] at hK ⊢
            rw [d13] at hK ⊢
            go_simp
            exact hK (undef) _ HJ.out rfl (fun j y h => h) _ rfl
          · obtain rfl := Option.some.inj ho.symm
            have d13 : V 13 = undef := hdep ⟨13, .guard⟩ (by simp) rfl
            clear hdep ho hJ
            try simp only [fill, slotOf, List.size_toArray, List.length_cons, List.length_nil, Nat.reduceAdd, List.getElem?_toArray, List.getElem?_cons_zero, List.getElem?_cons_succ, Option.bind_some, Act.put, List.setIfInBounds_toArray, List.set_cons_zero, List.set_cons_succ] at hK ⊢
            rw [d13] at hK ⊢
            go_simp
            exact hK (undef) _ HJ.out rfl (fun j y h => h) _ rfl
          · obtain rfl := Option.some.inj ho.symm
            have d13 : V 13 = undef := hdep ⟨13, .guard⟩ (by simp) rfl
            clear hdep ho hJ
            try simp only [fill, slotOf, List.size_toArray, List.length_cons, List.length_nil, Nat.reduceAdd, List.getElem?_toArray, List.getElem?_cons_zero, List.getElem?_cons_succ, Option.bind_some, Act.put, List.setIfInBounds_toArray, List.set_cons_zero, List.set_cons_succ] at hK ⊢
            rw [d13] at hK ⊢
            go_simp
            exact hK (undef) _ HJ.out rfl (fun j y h => h) _ rfl
          · obtain rfl := Option.some.inj ho.symm
            have d13 : V 13 = undef := hdep ⟨13, .guard⟩ (by simp) rfl
            clear hdep ho hJ
            try simp only [fill, slotOf, List.size_toArray, List.length_cons, List.length_nil, Nat.reduceAdd, List.getElem?_toArray, List.getElem?_cons_zero, List.getElem?_cons_succ, Option.bind_some, Act.put, List.setIfInBounds_toArray, List.set_cons_zero, List.set_cons_succ] at hK ⊢
            rw [d13] at hK ⊢
            go_simp
            exact hK (undef) _ HJ.out rfl (fun j y h => h) _ rfl
          · obtain rfl := Option.some.inj ho.symm
            have d13 : V 13 = undef := hdep ⟨13, .guard⟩ (by simp) rfl
            clear hdep ho hJ
            try simp only [fill, slotOf, List.size_toArray, List.length_cons, List.length_nil, Nat.reduceAdd, List.getElem?_toArray, List.getElem?_cons_zero, List.getElem?_cons_succ, Option.bind_some, Act.put, List.setIfInBounds_toArray, List.set_cons_zero, List.set_cons_succ] at hK ⊢
            rw [d13] at hK ⊢
            go_simp
            exact hK (undef) _ HJ.out rfl (fun j y h => h) _ rfl
          · obtain rfl := Option.some.inj ho.symm
            have d13 : V 13 = undef := hdep ⟨13, .guard⟩ (by simp) rfl
            clear hdep ho hJ
            try simp only [fill, slotOf, List.size_toArray, List.length_cons, List.length_nil, Nat.reduceAdd, List.getElem?_toArray, List.getElem?_cons_zero, List.getElem?_cons_succ, Option.bind_some, Act.put, List.setIfInBounds_toArray, List.set_cons_zero, List.set_cons_succ] at hK ⊢
            rw [d13] at hK ⊢
            go_simp
            exact hK (undef) _ HJ.out rfl (fun j y h => h) _ rfl
          · obtain rfl := Option.some.inj ho.symm
            have d13 : V 13 = undef := hdep ⟨13, .guard⟩ (by simp) rfl
            clear hdep ho hJ
            try simp only [fill, slotOf, List.size_toArray, List.length_cons, List.length_nil, Nat.reduceAdd, List.getElem?_toArray, List.getElem?_cons_zero, List.getElem?_cons_succ, Option.bind_some, Act.put, List.setIfInBounds_toArray, List.set_cons_zero, List.set_cons_succ] at hK ⊢
            rw [d13] at hK ⊢
            go_simp
            exact hK (undef) _ HJ.out rfl (fun j y h => h) _ rfl
          · obtain rfl := Option.some.inj ho.symm
            have d10 : V 10 = .bool true := hdep ⟨10, .guard⟩ (by simp) rfl
            clear hdep ho hJ
            try simp only [fill, slotOf, List.size_toArray, List.length_cons, List.length_nil, Nat.reduceAdd, List.getElem?_toArray, List.getElem?_cons_zero, List.getElem?_cons_succ, Option.bind_some, Act.put, List.setIfInBounds_toArray, List.set_cons_zero, List.set_cons_succ] at hK ⊢
            rw [d10] at hK ⊢
            go_simp
            exact hK (undef) _ HJ.out rfl (fun j y h => h) _ rfl
          · obtain rfl := Option.some.inj ho.symm
            have d10 : V 10 = .bool true := hdep ⟨10, .data⟩ (by simp) rfl
            clear hdep ho hJ
            try simp only [fill, slotOf, List.size_toArray, List.length_cons, List.length_nil, Nat.reduceAdd, List.getElem?_toArray, List.getElem?_cons_zero, List.getElem?_cons_succ, Option.bind_some, Act.put, List.setIfInBounds_toArray, List.set_cons_zero, List.set_cons_succ] at hK ⊢
            rw [d10] at hK ⊢
            go_simp
            exact hK (.bool true) _ HJ.out rfl (fun j y h => h) _ rfl
        · intro V w9 hJ hall
          have dL : V 25 = .bool true := hall 25 (by decide)
          have HJ9 := Lib.hid hJ
          clear hall hJ
          simp only [fill, slotOf, List.size_toArray, List.length_cons, List.length_nil, Nat.reduceAdd, List.getElem?_toArray, List.getElem?_cons_zero, List.getElem?_cons_succ, Option.bind_some, Act.put, List.setIfInBounds_toArray, List.set_cons_zero, List.set_cons_succ]
          rw [dL]
          clear dL
          have HBZ := Lib.hid (HBM.out.trans ((HAL.out.trans (HJ9.out.mono HAL.out.size)).mono HBM.out.size))
          go_wp2_with fail
          go_ret
          exact ⟨HNO.out, HBZ.out⟩
      | true =>
        by_cases hcut : x1 < d
        · have HC := Lib.hid (show decide (x1 < d) = true from decide_eq_true hcut)
          have HNO := Lib.hid (ManIs.no (pf := pfS) (fun h => (RisIs.no_not hkn (fun g => by
            have h1 := g.1
            rw [← HSE.out] at h1
            simp only [stayB, Bool.and_eq_true, decide_eq_true_eq] at h1
            omega)) h.2.2.1) : ManIs pfS s d hz en le mn lm on lo (.returned (.bool false)))
          clear hbx hcut
          refine wp_region_fill (by kernel_rfl) (by kernel_rfl) (by kernel_rfl) (Below (wr.alloc (.cells #[.string x0, .int .i64 x1, .string x2, .int .i64 x3, .int .i64 x4, .int .i64 x5, .int .i64 x6, .int .u32 x7, .int .i64 x8] 53)).heap.size (wr.alloc (.cells #[.string x0, .int .i64 x1, .string x2, .int .i64 x3, .int .i64 x4, .int .i64 x5, .int .i64 x6, .int .u32 x7, .int .i64 x8] 53))) (FV (fun j_9 => match j_9 with | 0 => some (.agg #[.string x0, .int .i64 x1, .string x2, .int .i64 x3, .int .i64 x4, .int .i64 x5, .int .i64 x6, .int .u32 x7, .int .i64 x8]) | 1 => some (.bool true) | 2 => some (.bool false) | 3 => some (.bool false) | 4 => some (.pointer (some ⟨wr.heap.size, 1, none⟩)) | 5 => some (.int .i64 x1) | 6 => some (.pointer (some ⟨w.heap.size, 1, none⟩)) | 7 => some (.int .i64 d) | 8 => some (.bool true) | 9 => some (.bool true) | 10 => some (.bool true) | 11 => some (undef) | 12 => some (undef) | 13 => some (undef) | 14 => some (undef) | 15 => some (undef) | 16 => some (undef) | 17 => some (undef) | 18 => some (undef) | 19 => some (undef) | 20 => some (undef) | 21 => some (undef) | 22 => some (undef) | 23 => some (undef) | 24 => some (undef) | 25 => some (.bool true) | _ => none) (fun _ _ => True)) (Below.refl _ _).drew ?_ ?_
          · intro i9 o ho V w9 K hJ hdep hK
            have HJ := Lib.hid hJ
            simp only [fill, slotOf, List.size_toArray, List.length_cons, List.length_nil, Nat.reduceAdd, List.getElem?_toArray, List.getElem?_cons_zero, List.getElem?_cons_succ, Option.bind_some, Act.put, List.setIfInBounds_toArray, List.set_cons_zero, List.set_cons_succ] at hK ⊢
            have hin : i9 < 26 := (Array.getElem?_eq_some_iff.1 ho).1
            have hcs : i9 = 0 ∨ i9 = 1 ∨ i9 = 2 ∨ i9 = 3 ∨ i9 = 4 ∨ i9 = 5 ∨ i9 = 6 ∨ i9 = 7 ∨ i9 = 8 ∨ i9 = 9 ∨ i9 = 10 ∨ i9 = 11 ∨ i9 = 12 ∨ i9 = 13 ∨ i9 = 14 ∨ i9 = 15 ∨ i9 = 16 ∨ i9 = 17 ∨ i9 = 18 ∨ i9 = 19 ∨ i9 = 20 ∨ i9 = 21 ∨ i9 = 22 ∨ i9 = 23 ∨ i9 = 24 ∨ i9 = 25 := by omega
            clear hin
            rcases hcs with rfl | rfl | rfl | rfl | rfl | rfl | rfl | rfl | rfl | rfl | rfl | rfl | rfl | rfl | rfl | rfl | rfl | rfl | rfl | rfl | rfl | rfl | rfl | rfl | rfl | rfl
            · obtain rfl := Option.some.inj ho.symm
              have e0 : w9.cell? ⟨wr.heap.size, 0, none⟩ = some (.string x0) := (hJ.cell (p := ⟨wr.heap.size, 0, none⟩) HXL.out).trans (cell_blk' HXA.out rfl)
              have e1 : w9.cell? ⟨wr.heap.size, 1, none⟩ = some (.int .i64 x1) := (hJ.cell (p := ⟨wr.heap.size, 1, none⟩) HXL.out).trans (cell_blk' HXA.out rfl)
              have e2 : w9.cell? ⟨wr.heap.size, 2, none⟩ = some (.string x2) := (hJ.cell (p := ⟨wr.heap.size, 2, none⟩) HXL.out).trans (cell_blk' HXA.out rfl)
              have e3 : w9.cell? ⟨wr.heap.size, 3, none⟩ = some (.int .i64 x3) := (hJ.cell (p := ⟨wr.heap.size, 3, none⟩) HXL.out).trans (cell_blk' HXA.out rfl)
              have e4 : w9.cell? ⟨wr.heap.size, 4, none⟩ = some (.int .i64 x4) := (hJ.cell (p := ⟨wr.heap.size, 4, none⟩) HXL.out).trans (cell_blk' HXA.out rfl)
              have e5 : w9.cell? ⟨wr.heap.size, 5, none⟩ = some (.int .i64 x5) := (hJ.cell (p := ⟨wr.heap.size, 5, none⟩) HXL.out).trans (cell_blk' HXA.out rfl)
              have e6 : w9.cell? ⟨wr.heap.size, 6, none⟩ = some (.int .i64 x6) := (hJ.cell (p := ⟨wr.heap.size, 6, none⟩) HXL.out).trans (cell_blk' HXA.out rfl)
              have e7 : w9.cell? ⟨wr.heap.size, 7, none⟩ = some (.int .u32 x7) := (hJ.cell (p := ⟨wr.heap.size, 7, none⟩) HXL.out).trans (cell_blk' HXA.out rfl)
              have e8 : w9.cell? ⟨wr.heap.size, 8, none⟩ = some (.int .i64 x8) := (hJ.cell (p := ⟨wr.heap.size, 8, none⟩) HXL.out).trans (cell_blk' HXA.out rfl)
              clear hdep ho hJ
              try simp only [fill, slotOf, List.size_toArray, List.length_cons, List.length_nil, Nat.reduceAdd, List.getElem?_toArray, List.getElem?_cons_zero, List.getElem?_cons_succ, Option.bind_some, Act.put, List.setIfInBounds_toArray, List.set_cons_zero, List.set_cons_succ] at hK ⊢
              go_simp
              exact hK (.agg #[.string x0, .int .i64 x1, .string x2, .int .i64 x3, .int .i64 x4, .int .i64 x5, .int .i64 x6, .int .u32 x7, .int .i64 x8]) _ HJ.out rfl (fun j y h => h) _ rfl
            · obtain rfl := Option.some.inj ho.symm
              have d0 : V 0 = .agg #[.string x0, .int .i64 x1, .string x2, .int .i64 x3, .int .i64 x4, .int .i64 x5, .int .i64 x6, .int .u32 x7, .int .i64 x8] := hdep ⟨0, .data⟩ (by simp) rfl
              clear hdep ho hJ
              try simp only [fill, slotOf, List.size_toArray, List.length_cons, List.length_nil, Nat.reduceAdd, List.getElem?_toArray, List.getElem?_cons_zero, List.getElem?_cons_succ, Option.bind_some, Act.put, List.setIfInBounds_toArray, List.set_cons_zero, List.set_cons_succ] at hK ⊢
              rw [d0] at hK ⊢
              go_simp
              refine (HRX.out w9 HJ.out).mono ?_
              rintro e w8 ⟨rfl, hb8⟩
              exact hK (.bool true) _ (HJ.out.trans (hb8.mono HJ.out.size)) rfl (FV.mono ((fun _ _ _ => trivial) hb8)) _ rfl
            · obtain rfl := Option.some.inj ho.symm
              have d1 : V 1 = .bool true := hdep ⟨1, .data⟩ (by simp) rfl
              clear hdep ho hJ
              try simp only [fill, slotOf, List.size_toArray, List.length_cons, List.length_nil, Nat.reduceAdd, List.getElem?_toArray, List.getElem?_cons_zero, List.getElem?_cons_succ, Option.bind_some, Act.put, List.setIfInBounds_toArray, List.set_cons_zero, List.set_cons_succ] at hK ⊢
              rw [d1] at hK ⊢
              go_simp
              exact hK (.bool false) _ HJ.out rfl (fun j y h => h) _ rfl
            · obtain rfl := Option.some.inj ho.symm
              have d2 : V 2 = .bool false := hdep ⟨2, .data⟩ (by simp) rfl
              clear hdep ho hJ
              try simp only [fill, slotOf, List.size_toArray, List.length_cons, List.length_nil, Nat.reduceAdd, List.getElem?_toArray, List.getElem?_cons_zero, List.getElem?_cons_succ, Option.bind_some, Act.put, List.setIfInBounds_toArray, List.set_cons_zero, List.set_cons_succ] at hK ⊢
              rw [d2] at hK ⊢
              go_simp
              exact hK (.bool false) _ HJ.out rfl (fun j y h => h) _ rfl
            · obtain rfl := Option.some.inj ho.symm
              have d3 : V 3 = .bool false := hdep ⟨3, .guard⟩ (by simp) rfl
              clear hdep ho hJ
              try simp only [fill, slotOf, List.size_toArray, List.length_cons, List.length_nil, Nat.reduceAdd, List.getElem?_toArray, List.getElem?_cons_zero, List.getElem?_cons_succ, Option.bind_some, Act.put, List.setIfInBounds_toArray, List.set_cons_zero, List.set_cons_succ] at hK ⊢
              rw [d3] at hK ⊢
              go_simp
              exact hK (.pointer (some ⟨wr.heap.size, 1, none⟩)) _ HJ.out rfl (fun j y h => h) _ rfl
            · obtain rfl := Option.some.inj ho.symm
              have d4 : V 4 = .pointer (some ⟨wr.heap.size, 1, none⟩) := hdep ⟨4, .data⟩ (by simp) rfl
              have d3 : V 3 = .bool false := hdep ⟨3, .guard⟩ (by simp) rfl
              have e1 : w9.cell? ⟨wr.heap.size, 1, none⟩ = some (.int .i64 x1) := (hJ.cell (p := ⟨wr.heap.size, 1, none⟩) HXL.out).trans (cell_blk' HXA.out rfl)
              clear hdep ho hJ
              try simp only [fill, slotOf, List.size_toArray, List.length_cons, List.length_nil, Nat.reduceAdd, List.getElem?_toArray, List.getElem?_cons_zero, List.getElem?_cons_succ, Option.bind_some, Act.put, List.setIfInBounds_toArray, List.set_cons_zero, List.set_cons_succ] at hK ⊢
              rw [d4, d3] at hK ⊢
              go_simp
              exact hK (.int .i64 x1) _ HJ.out rfl (fun j y h => h) _ rfl
            · obtain rfl := Option.some.inj ho.symm
              have d3 : V 3 = .bool false := hdep ⟨3, .guard⟩ (by simp) rfl
              clear hdep ho hJ
              try simp only [fill, slotOf, List.size_toArray, List.length_cons, List.length_nil, Nat.reduceAdd, List.getElem?_toArray, List.getElem?_cons_zero, List.getElem?_cons_succ, Option.bind_some, Act.put, List.setIfInBounds_toArray, List.set_cons_zero, List.set_cons_succ] at hK ⊢
              rw [d3] at hK ⊢
              go_simp
              exact hK (.pointer (some ⟨w.heap.size, 1, none⟩)) _ HJ.out rfl (fun j y h => h) _ rfl
            · obtain rfl := Option.some.inj ho.symm
              have d6 : V 6 = .pointer (some ⟨w.heap.size, 1, none⟩) := hdep ⟨6, .data⟩ (by simp) rfl
              have d3 : V 3 = .bool false := hdep ⟨3, .guard⟩ (by simp) rfl
              have m1 : w9.cell? ⟨w.heap.size, 1, none⟩ = some (.int .i64 d) := (hJ.cell (p := ⟨w.heap.size, 1, none⟩) HML.out).trans (cell_blk' HMA.out rfl)
              clear hdep ho hJ
              try simp only [fill, slotOf, List.size_toArray, List.length_cons, List.length_nil, Nat.reduceAdd, List.getElem?_toArray, List.getElem?_cons_zero, List.getElem?_cons_succ, Option.bind_some, Act.put, List.setIfInBounds_toArray, List.set_cons_zero, List.set_cons_succ] at hK ⊢
              rw [d6, d3] at hK ⊢
              go_simp
              exact hK (.int .i64 d) _ HJ.out rfl (fun j y h => h) _ rfl
            · obtain rfl := Option.some.inj ho.symm
              have d5 : V 5 = .int .i64 x1 := hdep ⟨5, .data⟩ (by simp) rfl
              have d7 : V 7 = .int .i64 d := hdep ⟨7, .data⟩ (by simp) rfl
              have d3 : V 3 = .bool false := hdep ⟨3, .guard⟩ (by simp) rfl
              have hz9 : decide (x1 < d) = true := HC.out
              clear hdep ho hJ
              try simp only [fill, slotOf, List.size_toArray, List.length_cons, List.length_nil, Nat.reduceAdd, List.getElem?_toArray, List.getElem?_cons_zero, List.getElem?_cons_succ, Option.bind_some, Act.put, List.setIfInBounds_toArray, List.set_cons_zero, List.set_cons_succ] at hK ⊢
              rw [d5, d7, d3] at hK ⊢
              go_simp
              exact hK (.bool true) _ HJ.out rfl (fun j y h => h) _ rfl
            · obtain rfl := Option.some.inj ho.symm
              have d3 : V 3 = .bool false := hdep ⟨3, .data⟩ (by simp) rfl
              have d8 : V 8 = .bool true := hdep ⟨8, .data⟩ (by simp) rfl
              clear hdep ho hJ
              try simp only [fill, slotOf, List.size_toArray, List.length_cons, List.length_nil, Nat.reduceAdd, List.getElem?_toArray, List.getElem?_cons_zero, List.getElem?_cons_succ, Option.bind_some, Act.put, List.setIfInBounds_toArray, List.set_cons_zero, List.set_cons_succ] at hK ⊢
              rw [d3, d8] at hK ⊢
              go_simp
              exact hK (.bool true) _ HJ.out rfl (fun j y h => h) _ rfl
            · obtain rfl := Option.some.inj ho.symm
              have d9 : V 9 = .bool true := hdep ⟨9, .data⟩ (by simp) rfl
              clear hdep ho hJ
              try simp only [fill, slotOf, List.size_toArray, List.length_cons, List.length_nil, Nat.reduceAdd, List.getElem?_toArray, List.getElem?_cons_zero, List.getElem?_cons_succ, Option.bind_some, Act.put, List.setIfInBounds_toArray, List.set_cons_zero, List.set_cons_succ] at hK ⊢
              rw [d9] at hK ⊢
              go_simp
              exact hK (.bool true) _ HJ.out rfl (fun j y h => h) _ rfl
            · obtain rfl := Option.some.inj ho.symm
              have d10 : V 10 = .bool true := hdep ⟨10, .guard⟩ (by simp) rfl
              clear hdep ho hJ
              try simp only [fill, slotOf, List.size_toArray, List.length_cons, List.length_nil, Nat.reduceAdd, List.getElem?_toArray, List.getElem?_cons_zero, List.getElem?_cons_succ, Option.bind_some, Act.put, List.setIfInBounds_toArray, List.set_cons_zero, List.set_cons_succ] at hK ⊢
              rw [d10] at hK ⊢
              go_simp
              exact hK (undef) _ HJ.out rfl (fun j y h => h) _ rfl
            · obtain rfl := Option.some.inj ho.symm
              have d10 : V 10 = .bool true := hdep ⟨10, .guard⟩ (by simp) rfl
              clear hdep ho hJ
              try simp only [fill, slotOf, List.size_toArray, List.length_cons, List.length_nil, Nat.reduceAdd, List.getElem?_toArray, List.getElem?_cons_zero, List.getElem?_cons_succ, Option.bind_some, Act.put, List.setIfInBounds_toArray, List.set_cons_zero, List.set_cons_succ] at hK ⊢
              rw [d10] at hK ⊢
              go_simp
              exact hK (undef) _ HJ.out rfl (fun j y h => h) _ rfl
            · obtain rfl := Option.some.inj ho.symm
              have d10 : V 10 = .bool true := hdep ⟨10, .guard⟩ (by simp) rfl
              clear hdep ho hJ
              try simp only [fill, slotOf, List.size_toArray, List.length_cons, List.length_nil, Nat.reduceAdd, List.getElem?_toArray, List.getElem?_cons_zero, List.getElem?_cons_succ, Option.bind_some, Act.put, List.setIfInBounds_toArray, List.set_cons_zero, List.set_cons_succ] at hK ⊢
              rw [d10] at hK ⊢
              go_simp
              exact hK (undef) _ HJ.out rfl (fun j y h => h) _ rfl
            · obtain rfl := Option.some.inj ho.symm
              have d13 : V 13 = undef := hdep ⟨13, .guard⟩ (by simp) rfl
              clear hdep ho hJ
              try simp only [fill, slotOf, List.size_toArray, List.length_cons, List.length_nil, Nat.reduceAdd, List.getElem?_toArray, List.getElem?_cons_zero, List.getElem?_cons_succ, Option.bind_some, Act.put, List.setIfInBounds_toArray, List.set_cons_zero, List.set_cons_succ] at hK ⊢
              rw [d13] at hK ⊢
              go_simp
              exact hK (undef) _ HJ.out rfl (fun j y h => h) _ rfl
            · obtain rfl := Option.some.inj ho.symm
              have d13 : V 13 = undef := hdep ⟨13, .guard⟩ (by simp) rfl
              clear hdep ho hJ
              try simp only [fill, slotOf, List.size_toArray, List.length_cons, List.length_nil, Nat.reduceAdd, List.getElem?_toArray, List.getElem?_cons_zero, List.getElem?_cons_succ, Option.bind_some, Act.put, List.setIfInBounds_toArray, List.set_cons_zero, List.set_cons_succ] at hK ⊢
              rw [d13] at hK ⊢
              go_simp
              exact hK (undef) _ HJ.out rfl (fun j y h => h) _ rfl
            · obtain rfl := Option.some.inj ho.symm
              have d13 : V 13 = undef := hdep ⟨13, .guard⟩ (by simp) rfl
              clear hdep ho hJ
              try simp only [fill, slotOf, List.size_toArray, List.length_cons, List.length_nil, Nat.reduceAdd, List.getElem?_toArray, List.getElem?_cons_zero, List.getElem?_cons_succ, Option.bind_some, Act.put, List.setIfInBounds_toArray, List.set_cons_zero, List.set_cons_succ] at hK ⊢
              rw [d13] at hK ⊢
              go_simp
              exact hK (undef) _ HJ.out rfl (fun j y h => h) _ rfl
            · obtain rfl := Option.some.inj ho.symm
              have d13 : V 13 = undef := hdep ⟨13, .guard⟩ (by simp) rfl
              clear hdep ho hJ
              try simp only [fill, slotOf, List.size_toArray, List.length_cons, List.length_nil, Nat.reduceAdd, List.getElem?_toArray, List.getElem?_cons_zero, List.getElem?_cons_succ, Option.bind_some, Act.put, List.setIfInBounds_toArray, List.set_cons_zero, List.set_cons_succ] at hK ⊢
              rw [d13] at hK ⊢
              go_simp
              exact hK (undef) _ HJ.out rfl (fun j y h => h) _ rfl
            · obtain rfl := Option.some.inj ho.symm
              have d13 : V 13 = undef := hdep ⟨13, .guard⟩ (by simp) rfl
              clear hdep ho hJ
              try simp only [fill, slotOf, List.size_toArray, List.length_cons, List.length_nil, Nat.reduceAdd, List.getElem?_toArray, List.getElem?_cons_zero, List.getElem?_cons_succ, Option.bind_some, Act.put, List.setIfInBounds_toArray, List.set_cons_zero, List.set_cons_succ] at hK ⊢
              rw [d13] at hK ⊢
              go_simp
              exact hK (undef) _ HJ.out rfl (fun j y h => h) _ rfl
            · obtain rfl := Option.some.inj ho.symm
              have d13 : V 13 = undef := hdep ⟨13, .guard⟩ (by simp) rfl
              clear hdep ho hJ
              try simp only [fill, slotOf, List.size_toArray, List.length_cons, List.length_nil, Nat.reduceAdd, List.getElem?_toArray, List.getElem?_cons_zero, List.getElem?_cons_succ, Option.bind_some, Act.put, List.setIfInBounds_toArray, List.set_cons_zero, List.set_cons_succ] at hK ⊢
              rw [d13] at hK ⊢
              go_simp
              exact hK (undef) _ HJ.out rfl (fun j y h => h) _ rfl
            · obtain rfl := Option.some.inj ho.symm
              have d13 : V 13 = undef := hdep ⟨13, .guard⟩ (by simp) rfl
              clear hdep ho hJ
              try simp only [fill, slotOf, List.size_toArray, List.length_cons, List.length_nil, Nat.reduceAdd, List.getElem?_toArray, List.getElem?_cons_zero, List.getElem?_cons_succ, Option.bind_some, Act.put, List.setIfInBounds_toArray, List.set_cons_zero, List.set_cons_succ] at hK ⊢
              rw [d13] at hK ⊢
              go_simp
              exact hK (undef) _ HJ.out rfl (fun j y h => h) _ rfl
            · obtain rfl := Option.some.inj ho.symm
              have d13 : V 13 = undef := hdep ⟨13, .guard⟩ (by simp) rfl
              clear hdep ho hJ
              try simp only [fill, slotOf, List.size_toArray, List.length_cons, List.length_nil, Nat.reduceAdd, List.getElem?_toArray, List.getElem?_cons_zero, List.getElem?_cons_succ, Option.bind_some, Act.put, List.setIfInBounds_toArray, List.set_cons_zero, List.set_cons_succ] at hK ⊢
              rw [d13] at hK ⊢
              go_simp
              exact hK (undef) _ HJ.out rfl (fun j y h => h) _ rfl
            · obtain rfl := Option.some.inj ho.symm
              have d13 : V 13 = undef := hdep ⟨13, .guard⟩ (by simp) rfl
              clear hdep ho hJ
              try simp only [fill, slotOf, List.size_toArray, List.length_cons, List.length_nil, Nat.reduceAdd, List.getElem?_toArray, List.getElem?_cons_zero, List.getElem?_cons_succ, Option.bind_some, Act.put, List.setIfInBounds_toArray, List.set_cons_zero, List.set_cons_succ] at hK ⊢
              rw [d13] at hK ⊢
              go_simp
              exact hK (undef) _ HJ.out rfl (fun j y h => h) _ rfl
            · obtain rfl := Option.some.inj ho.symm
              have d13 : V 13 = undef := hdep ⟨13, .guard⟩ (by simp) rfl
              clear hdep ho hJ
              try simp only [fill, slotOf, List.size_toArray, List.length_cons, List.length_nil, Nat.reduceAdd, List.getElem?_toArray, List.getElem?_cons_zero, List.getElem?_cons_succ, Option.bind_some, Act.put, List.setIfInBounds_toArray, List.set_cons_zero, List.set_cons_succ] at hK ⊢
              rw [d13] at hK ⊢
              go_simp
              exact hK (undef) _ HJ.out rfl (fun j y h => h) _ rfl
            · obtain rfl := Option.some.inj ho.symm
              have d10 : V 10 = .bool true := hdep ⟨10, .guard⟩ (by simp) rfl
              clear hdep ho hJ
              try simp only [fill, slotOf, List.size_toArray, List.length_cons, List.length_nil, Nat.reduceAdd, List.getElem?_toArray, List.getElem?_cons_zero, List.getElem?_cons_succ, Option.bind_some, Act.put, List.setIfInBounds_toArray, List.set_cons_zero, List.set_cons_succ] at hK ⊢
              rw [d10] at hK ⊢
              go_simp
              exact hK (undef) _ HJ.out rfl (fun j y h => h) _ rfl
            · obtain rfl := Option.some.inj ho.symm
              have d10 : V 10 = .bool true := hdep ⟨10, .data⟩ (by simp) rfl
              clear hdep ho hJ
              try simp only [fill, slotOf, List.size_toArray, List.length_cons, List.length_nil, Nat.reduceAdd, List.getElem?_toArray, List.getElem?_cons_zero, List.getElem?_cons_succ, Option.bind_some, Act.put, List.setIfInBounds_toArray, List.set_cons_zero, List.set_cons_succ] at hK ⊢
              rw [d10] at hK ⊢
              go_simp
              exact hK (.bool true) _ HJ.out rfl (fun j y h => h) _ rfl
          · intro V w9 hJ hall
            have dL : V 25 = .bool true := hall 25 (by decide)
            have HJ9 := Lib.hid hJ
            clear hall hJ
            simp only [fill, slotOf, List.size_toArray, List.length_cons, List.length_nil, Nat.reduceAdd, List.getElem?_toArray, List.getElem?_cons_zero, List.getElem?_cons_succ, Option.bind_some, Act.put, List.setIfInBounds_toArray, List.set_cons_zero, List.set_cons_succ]
            rw [dL]
            clear dL
            have HBZ := Lib.hid (HBM.out.trans ((HAL.out.trans (HJ9.out.mono HAL.out.size)).mono HBM.out.size))
            go_wp2_with fail
            go_ret
            exact ⟨HNO.out, HBZ.out⟩
        · have HC := Lib.hid (show decide (x1 < d) = false from decide_eq_false hcut)
          clear hcut
          by_cases hk0 : k = 0
          · subst hk0
            have HOK2 := Lib.hid (HOK.out.succ (by rw [← HSE.out]; show (entB _ (pfS x2 == 0) && decide (d ≤ x1)) = true; rw [pfS_is, ← HBX.out, decide_eq_true (show d ≤ x1 from by have := of_decide_eq_false HC.out; omega)]; rfl) (fun g => absurd g (Nat.lt_irrefl 0)))
            clear hbx
            refine wp_region_fill (by kernel_rfl) (by kernel_rfl) (by kernel_rfl) (Below (wr.alloc (.cells #[.string x0, .int .i64 x1, .string x2, .int .i64 x3, .int .i64 x4, .int .i64 x5, .int .i64 x6, .int .u32 x7, .int .i64 x8] 53)).heap.size (wr.alloc (.cells #[.string x0, .int .i64 x1, .string x2, .int .i64 x3, .int .i64 x4, .int .i64 x5, .int .i64 x6, .int .u32 x7, .int .i64 x8] 53))) (FV (fun j_9 => match j_9 with | 0 => some (.agg #[.string x0, .int .i64 x1, .string x2, .int .i64 x3, .int .i64 x4, .int .i64 x5, .int .i64 x6, .int .u32 x7, .int .i64 x8]) | 1 => some (.bool true) | 2 => some (.bool false) | 3 => some (.bool false) | 4 => some (.pointer (some ⟨wr.heap.size, 1, none⟩)) | 5 => some (.int .i64 x1) | 6 => some (.pointer (some ⟨w.heap.size, 1, none⟩)) | 7 => some (.int .i64 d) | 8 => some (.bool false) | 9 => some (.bool false) | 10 => some (.bool false) | 11 => some (.int .i64 0) | 12 => some (.bool false) | 13 => some (.bool false) | 14 => some (undef) | 15 => some (undef) | 16 => some (undef) | 17 => some (undef) | 18 => some (undef) | 19 => some (undef) | 20 => some (undef) | 21 => some (undef) | 22 => some (undef) | 23 => some (undef) | 24 => some (.bool false) | 25 => some (.bool false) | _ => none) (fun _ _ => True)) (Below.refl _ _).drew ?_ ?_
            · intro i9 o ho V w9 K hJ hdep hK
              have HJ := Lib.hid hJ
              simp only [fill, slotOf, List.size_toArray, List.length_cons, List.length_nil, Nat.reduceAdd, List.getElem?_toArray, List.getElem?_cons_zero, List.getElem?_cons_succ, Option.bind_some, Act.put, List.setIfInBounds_toArray, List.set_cons_zero, List.set_cons_succ] at hK ⊢
              have hin : i9 < 26 := (Array.getElem?_eq_some_iff.1 ho).1
              have hcs : i9 = 0 ∨ i9 = 1 ∨ i9 = 2 ∨ i9 = 3 ∨ i9 = 4 ∨ i9 = 5 ∨ i9 = 6 ∨ i9 = 7 ∨ i9 = 8 ∨ i9 = 9 ∨ i9 = 10 ∨ i9 = 11 ∨ i9 = 12 ∨ i9 = 13 ∨ i9 = 14 ∨ i9 = 15 ∨ i9 = 16 ∨ i9 = 17 ∨ i9 = 18 ∨ i9 = 19 ∨ i9 = 20 ∨ i9 = 21 ∨ i9 = 22 ∨ i9 = 23 ∨ i9 = 24 ∨ i9 = 25 := by omega
              clear hin
              rcases hcs with rfl | rfl | rfl | rfl | rfl | rfl | rfl | rfl | rfl | rfl | rfl | rfl | rfl | rfl | rfl | rfl | rfl | rfl | rfl | rfl | rfl | rfl | rfl | rfl | rfl | rfl
              · obtain rfl := Option.some.inj ho.symm
                have e0 : w9.cell? ⟨wr.heap.size, 0, none⟩ = some (.string x0) := (hJ.cell (p := ⟨wr.heap.size, 0, none⟩) HXL.out).trans (cell_blk' HXA.out rfl)
                have e1 : w9.cell? ⟨wr.heap.size, 1, none⟩ = some (.int .i64 x1) := (hJ.cell (p := ⟨wr.heap.size, 1, none⟩) HXL.out).trans (cell_blk' HXA.out rfl)
                have e2 : w9.cell? ⟨wr.heap.size, 2, none⟩ = some (.string x2) := (hJ.cell (p := ⟨wr.heap.size, 2, none⟩) HXL.out).trans (cell_blk' HXA.out rfl)
                have e3 : w9.cell? ⟨wr.heap.size, 3, none⟩ = some (.int .i64 x3) := (hJ.cell (p := ⟨wr.heap.size, 3, none⟩) HXL.out).trans (cell_blk' HXA.out rfl)
                have e4 : w9.cell? ⟨wr.heap.size, 4, none⟩ = some (.int .i64 x4) := (hJ.cell (p := ⟨wr.heap.size, 4, none⟩) HXL.out).trans (cell_blk' HXA.out rfl)
                have e5 : w9.cell? ⟨wr.heap.size, 5, none⟩ = some (.int .i64 x5) := (hJ.cell (p := ⟨wr.heap.size, 5, none⟩) HXL.out).trans (cell_blk' HXA.out rfl)
                have e6 : w9.cell? ⟨wr.heap.size, 6, none⟩ = some (.int .i64 x6) := (hJ.cell (p := ⟨wr.heap.size, 6, none⟩) HXL.out).trans (cell_blk' HXA.out rfl)
                have e7 : w9.cell? ⟨wr.heap.size, 7, none⟩ = some (.int .u32 x7) := (hJ.cell (p := ⟨wr.heap.size, 7, none⟩) HXL.out).trans (cell_blk' HXA.out rfl)
                have e8 : w9.cell? ⟨wr.heap.size, 8, none⟩ = some (.int .i64 x8) := (hJ.cell (p := ⟨wr.heap.size, 8, none⟩) HXL.out).trans (cell_blk' HXA.out rfl)
                clear hdep ho hJ
                try simp only [fill, slotOf, List.size_toArray, List.length_cons, List.length_nil, Nat.reduceAdd, List.getElem?_toArray, List.getElem?_cons_zero, List.getElem?_cons_succ, Option.bind_some, Act.put, List.setIfInBounds_toArray, List.set_cons_zero, List.set_cons_succ] at hK ⊢
                go_simp
                exact hK (.agg #[.string x0, .int .i64 x1, .string x2, .int .i64 x3, .int .i64 x4, .int .i64 x5, .int .i64 x6, .int .u32 x7, .int .i64 x8]) _ HJ.out rfl (fun j y h => h) _ rfl
              · obtain rfl := Option.some.inj ho.symm
                have d0 : V 0 = .agg #[.string x0, .int .i64 x1, .string x2, .int .i64 x3, .int .i64 x4, .int .i64 x5, .int .i64 x6, .int .u32 x7, .int .i64 x8] := hdep ⟨0, .data⟩ (by simp) rfl
                clear hdep ho hJ
                try simp only [fill, slotOf, List.size_toArray, List.length_cons, List.length_nil, Nat.reduceAdd, List.getElem?_toArray, List.getElem?_cons_zero, List.getElem?_cons_succ, Option.bind_some, Act.put, List.setIfInBounds_toArray, List.set_cons_zero, List.set_cons_succ] at hK ⊢
                rw [d0] at hK ⊢
                go_simp
                refine (HRX.out w9 HJ.out).mono ?_
                rintro e w8 ⟨rfl, hb8⟩
                exact hK (.bool true) _ (HJ.out.trans (hb8.mono HJ.out.size)) rfl (FV.mono ((fun _ _ _ => trivial) hb8)) _ rfl
              · obtain rfl := Option.some.inj ho.symm
                have d1 : V 1 = .bool true := hdep ⟨1, .data⟩ (by simp) rfl
                clear hdep ho hJ
                try simp only [fill, slotOf, List.size_toArray, List.length_cons, List.length_nil, Nat.reduceAdd, List.getElem?_toArray, List.getElem?_cons_zero, List.getElem?_cons_succ, Option.bind_some, Act.put, List.setIfInBounds_toArray, List.set_cons_zero, List.set_cons_succ] at hK ⊢
                rw [d1] at hK ⊢
                go_simp
                exact hK (.bool false) _ HJ.out rfl (fun j y h => h) _ rfl
              · obtain rfl := Option.some.inj ho.symm
                have d2 : V 2 = .bool false := hdep ⟨2, .data⟩ (by simp) rfl
                clear hdep ho hJ
                try simp only [fill, slotOf, List.size_toArray, List.length_cons, List.length_nil, Nat.reduceAdd, List.getElem?_toArray, List.getElem?_cons_zero, List.getElem?_cons_succ, Option.bind_some, Act.put, List.setIfInBounds_toArray, List.set_cons_zero, List.set_cons_succ] at hK ⊢
                rw [d2] at hK ⊢
                go_simp
                exact hK (.bool false) _ HJ.out rfl (fun j y h => h) _ rfl
              · obtain rfl := Option.some.inj ho.symm
                have d3 : V 3 = .bool false := hdep ⟨3, .guard⟩ (by simp) rfl
                clear hdep ho hJ
                try simp only [fill, slotOf, List.size_toArray, List.length_cons, List.length_nil, Nat.reduceAdd, List.getElem?_toArray, List.getElem?_cons_zero, List.getElem?_cons_succ, Option.bind_some, Act.put, List.setIfInBounds_toArray, List.set_cons_zero, List.set_cons_succ] at hK ⊢
                rw [d3] at hK ⊢
                go_simp
                exact hK (.pointer (some ⟨wr.heap.size, 1, none⟩)) _ HJ.out rfl (fun j y h => h) _ rfl
              · obtain rfl := Option.some.inj ho.symm
                have d4 : V 4 = .pointer (some ⟨wr.heap.size, 1, none⟩) := hdep ⟨4, .data⟩ (by simp) rfl
                have d3 : V 3 = .bool false := hdep ⟨3, .guard⟩ (by simp) rfl
                have e1 : w9.cell? ⟨wr.heap.size, 1, none⟩ = some (.int .i64 x1) := (hJ.cell (p := ⟨wr.heap.size, 1, none⟩) HXL.out).trans (cell_blk' HXA.out rfl)
                clear hdep ho hJ
                try simp only [fill, slotOf, List.size_toArray, List.length_cons, List.length_nil, Nat.reduceAdd, List.getElem?_toArray, List.getElem?_cons_zero, List.getElem?_cons_succ, Option.bind_some, Act.put, List.setIfInBounds_toArray, List.set_cons_zero, List.set_cons_succ] at hK ⊢
                rw [d4, d3] at hK ⊢
                go_simp
                exact hK (.int .i64 x1) _ HJ.out rfl (fun j y h => h) _ rfl
              · obtain rfl := Option.some.inj ho.symm
                have d3 : V 3 = .bool false := hdep ⟨3, .guard⟩ (by simp) rfl
                clear hdep ho hJ
                try simp only [fill, slotOf, List.size_toArray, List.length_cons, List.length_nil, Nat.reduceAdd, List.getElem?_toArray, List.getElem?_cons_zero, List.getElem?_cons_succ, Option.bind_some, Act.put, List.setIfInBounds_toArray, List.set_cons_zero, List.set_cons_succ] at hK ⊢
                rw [d3] at hK ⊢
                go_simp
                exact hK (.pointer (some ⟨w.heap.size, 1, none⟩)) _ HJ.out rfl (fun j y h => h) _ rfl
              · obtain rfl := Option.some.inj ho.symm
                have d6 : V 6 = .pointer (some ⟨w.heap.size, 1, none⟩) := hdep ⟨6, .data⟩ (by simp) rfl
                have d3 : V 3 = .bool false := hdep ⟨3, .guard⟩ (by simp) rfl
                have m1 : w9.cell? ⟨w.heap.size, 1, none⟩ = some (.int .i64 d) := (hJ.cell (p := ⟨w.heap.size, 1, none⟩) HML.out).trans (cell_blk' HMA.out rfl)
                clear hdep ho hJ
                try simp only [fill, slotOf, List.size_toArray, List.length_cons, List.length_nil, Nat.reduceAdd, List.getElem?_toArray, List.getElem?_cons_zero, List.getElem?_cons_succ, Option.bind_some, Act.put, List.setIfInBounds_toArray, List.set_cons_zero, List.set_cons_succ] at hK ⊢
                rw [d6, d3] at hK ⊢
                go_simp
                exact hK (.int .i64 d) _ HJ.out rfl (fun j y h => h) _ rfl
              · obtain rfl := Option.some.inj ho.symm
                have d5 : V 5 = .int .i64 x1 := hdep ⟨5, .data⟩ (by simp) rfl
                have d7 : V 7 = .int .i64 d := hdep ⟨7, .data⟩ (by simp) rfl
                have d3 : V 3 = .bool false := hdep ⟨3, .guard⟩ (by simp) rfl
                have hz9 : decide (x1 < d) = false := HC.out
                clear hdep ho hJ
                try simp only [fill, slotOf, List.size_toArray, List.length_cons, List.length_nil, Nat.reduceAdd, List.getElem?_toArray, List.getElem?_cons_zero, List.getElem?_cons_succ, Option.bind_some, Act.put, List.setIfInBounds_toArray, List.set_cons_zero, List.set_cons_succ] at hK ⊢
                rw [d5, d7, d3] at hK ⊢
                go_simp
                exact hK (.bool false) _ HJ.out rfl (fun j y h => h) _ rfl
              · obtain rfl := Option.some.inj ho.symm
                have d3 : V 3 = .bool false := hdep ⟨3, .data⟩ (by simp) rfl
                have d8 : V 8 = .bool false := hdep ⟨8, .data⟩ (by simp) rfl
                clear hdep ho hJ
                try simp only [fill, slotOf, List.size_toArray, List.length_cons, List.length_nil, Nat.reduceAdd, List.getElem?_toArray, List.getElem?_cons_zero, List.getElem?_cons_succ, Option.bind_some, Act.put, List.setIfInBounds_toArray, List.set_cons_zero, List.set_cons_succ] at hK ⊢
                rw [d3, d8] at hK ⊢
                go_simp
                exact hK (.bool false) _ HJ.out rfl (fun j y h => h) _ rfl
              · obtain rfl := Option.some.inj ho.symm
                have d9 : V 9 = .bool false := hdep ⟨9, .data⟩ (by simp) rfl
                clear hdep ho hJ
                try simp only [fill, slotOf, List.size_toArray, List.length_cons, List.length_nil, Nat.reduceAdd, List.getElem?_toArray, List.getElem?_cons_zero, List.getElem?_cons_succ, Option.bind_some, Act.put, List.setIfInBounds_toArray, List.set_cons_zero, List.set_cons_succ] at hK ⊢
                rw [d9] at hK ⊢
                go_simp
                exact hK (.bool false) _ HJ.out rfl (fun j y h => h) _ rfl
              · obtain rfl := Option.some.inj ho.symm
                have d10 : V 10 = .bool false := hdep ⟨10, .guard⟩ (by simp) rfl
                clear hdep ho hJ
                try simp only [fill, slotOf, List.size_toArray, List.length_cons, List.length_nil, Nat.reduceAdd, List.getElem?_toArray, List.getElem?_cons_zero, List.getElem?_cons_succ, Option.bind_some, Act.put, List.setIfInBounds_toArray, List.set_cons_zero, List.set_cons_succ] at hK ⊢
                rw [d10] at hK ⊢
                go_simp
                exact hK (.int .i64 0) _ HJ.out rfl (fun j y h => h) _ rfl
              · obtain rfl := Option.some.inj ho.symm
                have d11 : V 11 = .int .i64 0 := hdep ⟨11, .data⟩ (by simp) rfl
                have d10 : V 10 = .bool false := hdep ⟨10, .guard⟩ (by simp) rfl
                clear hdep ho hJ
                try simp only [fill, slotOf, List.size_toArray, List.length_cons, List.length_nil, Nat.reduceAdd, List.getElem?_toArray, List.getElem?_cons_zero, List.getElem?_cons_succ, Option.bind_some, Act.put, List.setIfInBounds_toArray, List.set_cons_zero, List.set_cons_succ] at hK ⊢
                rw [d11, d10] at hK ⊢
                go_simp
                exact hK (.bool false) _ HJ.out rfl (fun j y h => h) _ rfl
              · obtain rfl := Option.some.inj ho.symm
                have d12 : V 12 = .bool false := hdep ⟨12, .data⟩ (by simp) rfl
                have d10 : V 10 = .bool false := hdep ⟨10, .guard⟩ (by simp) rfl
                clear hdep ho hJ
                try simp only [fill, slotOf, List.size_toArray, List.length_cons, List.length_nil, Nat.reduceAdd, List.getElem?_toArray, List.getElem?_cons_zero, List.getElem?_cons_succ, Option.bind_some, Act.put, List.setIfInBounds_toArray, List.set_cons_zero, List.set_cons_succ] at hK ⊢
                rw [d12, d10] at hK ⊢
                go_simp
                exact hK (.bool false) _ HJ.out rfl (fun j y h => h) _ rfl
              · obtain rfl := Option.some.inj ho.symm
                have d13 : V 13 = .bool false := hdep ⟨13, .guard⟩ (by simp) rfl
                clear hdep ho hJ
                try simp only [fill, slotOf, List.size_toArray, List.length_cons, List.length_nil, Nat.reduceAdd, List.getElem?_toArray, List.getElem?_cons_zero, List.getElem?_cons_succ, Option.bind_some, Act.put, List.setIfInBounds_toArray, List.set_cons_zero, List.set_cons_succ] at hK ⊢
                rw [d13] at hK ⊢
                go_simp
                exact hK (undef) _ HJ.out rfl (fun j y h => h) _ rfl
              · obtain rfl := Option.some.inj ho.symm
                have d13 : V 13 = .bool false := hdep ⟨13, .guard⟩ (by simp) rfl
                clear hdep ho hJ
                try simp only [fill, slotOf, List.size_toArray, List.length_cons, List.length_nil, Nat.reduceAdd, List.getElem?_toArray, List.getElem?_cons_zero, List.getElem?_cons_succ, Option.bind_some, Act.put, List.setIfInBounds_toArray, List.set_cons_zero, List.set_cons_succ] at hK ⊢
                rw [d13] at hK ⊢
                go_simp
                exact hK (undef) _ HJ.out rfl (fun j y h => h) _ rfl
              · obtain rfl := Option.some.inj ho.symm
                have d13 : V 13 = .bool false := hdep ⟨13, .guard⟩ (by simp) rfl
                clear hdep ho hJ
                try simp only [fill, slotOf, List.size_toArray, List.length_cons, List.length_nil, Nat.reduceAdd, List.getElem?_toArray, List.getElem?_cons_zero, List.getElem?_cons_succ, Option.bind_some, Act.put, List.setIfInBounds_toArray, List.set_cons_zero, List.set_cons_succ] at hK ⊢
                rw [d13] at hK ⊢
                go_simp
                exact hK (undef) _ HJ.out rfl (fun j y h => h) _ rfl
              · obtain rfl := Option.some.inj ho.symm
                have d13 : V 13 = .bool false := hdep ⟨13, .guard⟩ (by simp) rfl
                clear hdep ho hJ
                try simp only [fill, slotOf, List.size_toArray, List.length_cons, List.length_nil, Nat.reduceAdd, List.getElem?_toArray, List.getElem?_cons_zero, List.getElem?_cons_succ, Option.bind_some, Act.put, List.setIfInBounds_toArray, List.set_cons_zero, List.set_cons_succ] at hK ⊢
                rw [d13] at hK ⊢
                go_simp
                exact hK (undef) _ HJ.out rfl (fun j y h => h) _ rfl
              · obtain rfl := Option.some.inj ho.symm
                have d13 : V 13 = .bool false := hdep ⟨13, .guard⟩ (by simp) rfl
                clear hdep ho hJ
                try simp only [fill, slotOf, List.size_toArray, List.length_cons, List.length_nil, Nat.reduceAdd, List.getElem?_toArray, List.getElem?_cons_zero, List.getElem?_cons_succ, Option.bind_some, Act.put, List.setIfInBounds_toArray, List.set_cons_zero, List.set_cons_succ] at hK ⊢
                rw [d13] at hK ⊢
                go_simp
                exact hK (undef) _ HJ.out rfl (fun j y h => h) _ rfl
              · obtain rfl := Option.some.inj ho.symm
                have d13 : V 13 = .bool false := hdep ⟨13, .guard⟩ (by simp) rfl
                clear hdep ho hJ
                try simp only [fill, slotOf, List.size_toArray, List.length_cons, List.length_nil, Nat.reduceAdd, List.getElem?_toArray, List.getElem?_cons_zero, List.getElem?_cons_succ, Option.bind_some, Act.put, List.setIfInBounds_toArray, List.set_cons_zero, List.set_cons_succ] at hK ⊢
                rw [d13] at hK ⊢
                go_simp
                exact hK (undef) _ HJ.out rfl (fun j y h => h) _ rfl
              · obtain rfl := Option.some.inj ho.symm
                have d13 : V 13 = .bool false := hdep ⟨13, .guard⟩ (by simp) rfl
                clear hdep ho hJ
                try simp only [fill, slotOf, List.size_toArray, List.length_cons, List.length_nil, Nat.reduceAdd, List.getElem?_toArray, List.getElem?_cons_zero, List.getElem?_cons_succ, Option.bind_some, Act.put, List.setIfInBounds_toArray, List.set_cons_zero, List.set_cons_succ] at hK ⊢
                rw [d13] at hK ⊢
                go_simp
                exact hK (undef) _ HJ.out rfl (fun j y h => h) _ rfl
              · obtain rfl := Option.some.inj ho.symm
                have d13 : V 13 = .bool false := hdep ⟨13, .guard⟩ (by simp) rfl
                clear hdep ho hJ
                try simp only [fill, slotOf, List.size_toArray, List.length_cons, List.length_nil, Nat.reduceAdd, List.getElem?_toArray, List.getElem?_cons_zero, List.getElem?_cons_succ, Option.bind_some, Act.put, List.setIfInBounds_toArray, List.set_cons_zero, List.set_cons_succ] at hK ⊢
                rw [d13] at hK ⊢
                go_simp
                exact hK (undef) _ HJ.out rfl (fun j y h => h) _ rfl
              · obtain rfl := Option.some.inj ho.symm
                have d13 : V 13 = .bool false := hdep ⟨13, .guard⟩ (by simp) rfl
                clear hdep ho hJ
                try simp only [fill, slotOf, List.size_toArray, List.length_cons, List.length_nil, Nat.reduceAdd, List.getElem?_toArray, List.getElem?_cons_zero, List.getElem?_cons_succ, Option.bind_some, Act.put, List.setIfInBounds_toArray, List.set_cons_zero, List.set_cons_succ] at hK ⊢
                rw [d13] at hK ⊢
                go_simp
                exact hK (undef) _ HJ.out rfl (fun j y h => h) _ rfl
              · obtain rfl := Option.some.inj ho.symm
                have d13 : V 13 = .bool false := hdep ⟨13, .guard⟩ (by simp) rfl
                clear hdep ho hJ
                try simp only [fill, slotOf, List.size_toArray, List.length_cons, List.length_nil, Nat.reduceAdd, List.getElem?_toArray, List.getElem?_cons_zero, List.getElem?_cons_succ, Option.bind_some, Act.put, List.setIfInBounds_toArray, List.set_cons_zero, List.set_cons_succ] at hK ⊢
                rw [d13] at hK ⊢
                go_simp
                exact hK (undef) _ HJ.out rfl (fun j y h => h) _ rfl
              · obtain rfl := Option.some.inj ho.symm
                have d13 : V 13 = .bool false := hdep ⟨13, .data⟩ (by simp) rfl
                have d10 : V 10 = .bool false := hdep ⟨10, .guard⟩ (by simp) rfl
                clear hdep ho hJ
                try simp only [fill, slotOf, List.size_toArray, List.length_cons, List.length_nil, Nat.reduceAdd, List.getElem?_toArray, List.getElem?_cons_zero, List.getElem?_cons_succ, Option.bind_some, Act.put, List.setIfInBounds_toArray, List.set_cons_zero, List.set_cons_succ] at hK ⊢
                rw [d13, d10] at hK ⊢
                go_simp
                exact hK (.bool false) _ HJ.out rfl (fun j y h => h) _ rfl
              · obtain rfl := Option.some.inj ho.symm
                have d10 : V 10 = .bool false := hdep ⟨10, .data⟩ (by simp) rfl
                have d24 : V 24 = .bool false := hdep ⟨24, .data⟩ (by simp) rfl
                clear hdep ho hJ
                try simp only [fill, slotOf, List.size_toArray, List.length_cons, List.length_nil, Nat.reduceAdd, List.getElem?_toArray, List.getElem?_cons_zero, List.getElem?_cons_succ, Option.bind_some, Act.put, List.setIfInBounds_toArray, List.set_cons_zero, List.set_cons_succ] at hK ⊢
                rw [d10, d24] at hK ⊢
                go_simp
                exact hK (.bool false) _ HJ.out rfl (fun j y h => h) _ rfl
            · intro V w9 hJ hall
              have dL : V 25 = .bool false := hall 25 (by decide)
              have HJ9 := Lib.hid hJ
              clear hall hJ
              simp only [fill, slotOf, List.size_toArray, List.length_cons, List.length_nil, Nat.reduceAdd, List.getElem?_toArray, List.getElem?_cons_zero, List.getElem?_cons_succ, Option.bind_some, Act.put, List.setIfInBounds_toArray, List.set_cons_zero, List.set_cons_succ]
              rw [dL]
              clear dL
              have HBZ := Lib.hid (HAL.out.trans (HJ9.out.mono HAL.out.size))
              go_wp2_with fail
              go_roundw
              case rel => exact ⟨1, by omega, rfl, HOK2, HBZ⟩
              case measure => simp [intOf]; try omega
          · obtain ⟨j, rfl⟩ : ∃ j, k = j + 1 := ⟨k - 1, by omega⟩
            have HSYJ := Lib.hid HSY.out
            simp only [Nat.add_sub_cancel] at HSYJ
            clear HSY
            have HSY := HSYJ
            clear HSYJ
            cases hge : Op.bytesLess y0.toList x0.toList with
            | false =>
              have HZ := Lib.hid hge
              have HNO := Lib.hid (ManIs.no (pf := pfS) (fun h => (RisIs.no_not hkn (fun g => by
                have h1 := g.2 (by omega)
                rw [← HSE.out, ← HRE.out] at h1
                have h2 := (cmpS_lt9 y0 x0).1 h1
                unfold ltB at h2
                rw [hge] at h2
                cases h2)) h.2.2.1) : ManIs pfS s d hz en le mn lm on lo (.returned (.bool false)))
              clear hbx hge
              refine wp_region_fill (by kernel_rfl) (by kernel_rfl) (by kernel_rfl) (Below (wr.alloc (.cells #[.string x0, .int .i64 x1, .string x2, .int .i64 x3, .int .i64 x4, .int .i64 x5, .int .i64 x6, .int .u32 x7, .int .i64 x8] 53)).heap.size (wr.alloc (.cells #[.string x0, .int .i64 x1, .string x2, .int .i64 x3, .int .i64 x4, .int .i64 x5, .int .i64 x6, .int .u32 x7, .int .i64 x8] 53))) (FV (fun j_9 => match j_9 with | 0 => some (.agg #[.string x0, .int .i64 x1, .string x2, .int .i64 x3, .int .i64 x4, .int .i64 x5, .int .i64 x6, .int .u32 x7, .int .i64 x8]) | 1 => some (.bool true) | 2 => some (.bool false) | 3 => some (.bool false) | 4 => some (.pointer (some ⟨wr.heap.size, 1, none⟩)) | 5 => some (.int .i64 x1) | 6 => some (.pointer (some ⟨w.heap.size, 1, none⟩)) | 7 => some (.int .i64 d) | 8 => some (.bool false) | 9 => some (.bool false) | 10 => some (.bool false) | 11 => some (.int .i64 ((j : Int) + 1)) | 12 => some (.bool true) | 13 => some (.bool true) | 14 => some (.pointer (some ⟨w.heap.size, 3, none⟩)) | 15 => some (.slice (some ⟨sb, so, none⟩) en ec) | 16 => some (.int .i64 ((j : Int) + 1)) | 17 => some (.int .i64 (j : Int)) | 18 => some (.pointer (some ⟨sb, so + j * 9, none⟩)) | 19 => some (.pointer (some ⟨sb, so + j * 9, none⟩)) | 20 => some (.string y0) | 21 => some (.pointer (some ⟨wr.heap.size, 0, none⟩)) | 22 => some (.string x0) | 23 => some (.bool true) | 24 => some (.bool true) | 25 => some (.bool true) | _ => none) (fun _ _ => True)) (Below.refl _ _).drew ?_ ?_
              · intro i9 o ho V w9 K hJ hdep hK
                have HJ := Lib.hid hJ
                simp only [fill, slotOf, List.size_toArray, List.length_cons, List.length_nil, Nat.reduceAdd, List.getElem?_toArray, List.getElem?_cons_zero, List.getElem?_cons_succ, Option.bind_some, Act.put, List.setIfInBounds_toArray, List.set_cons_zero, List.set_cons_succ] at hK ⊢
                have hin : i9 < 26 := (Array.getElem?_eq_some_iff.1 ho).1
                have hcs : i9 = 0 ∨ i9 = 1 ∨ i9 = 2 ∨ i9 = 3 ∨ i9 = 4 ∨ i9 = 5 ∨ i9 = 6 ∨ i9 = 7 ∨ i9 = 8 ∨ i9 = 9 ∨ i9 = 10 ∨ i9 = 11 ∨ i9 = 12 ∨ i9 = 13 ∨ i9 = 14 ∨ i9 = 15 ∨ i9 = 16 ∨ i9 = 17 ∨ i9 = 18 ∨ i9 = 19 ∨ i9 = 20 ∨ i9 = 21 ∨ i9 = 22 ∨ i9 = 23 ∨ i9 = 24 ∨ i9 = 25 := by omega
                clear hin
                rcases hcs with rfl | rfl | rfl | rfl | rfl | rfl | rfl | rfl | rfl | rfl | rfl | rfl | rfl | rfl | rfl | rfl | rfl | rfl | rfl | rfl | rfl | rfl | rfl | rfl | rfl | rfl
                · obtain rfl := Option.some.inj ho.symm
                  have e0 : w9.cell? ⟨wr.heap.size, 0, none⟩ = some (.string x0) := (hJ.cell (p := ⟨wr.heap.size, 0, none⟩) HXL.out).trans (cell_blk' HXA.out rfl)
                  have e1 : w9.cell? ⟨wr.heap.size, 1, none⟩ = some (.int .i64 x1) := (hJ.cell (p := ⟨wr.heap.size, 1, none⟩) HXL.out).trans (cell_blk' HXA.out rfl)
                  have e2 : w9.cell? ⟨wr.heap.size, 2, none⟩ = some (.string x2) := (hJ.cell (p := ⟨wr.heap.size, 2, none⟩) HXL.out).trans (cell_blk' HXA.out rfl)
                  have e3 : w9.cell? ⟨wr.heap.size, 3, none⟩ = some (.int .i64 x3) := (hJ.cell (p := ⟨wr.heap.size, 3, none⟩) HXL.out).trans (cell_blk' HXA.out rfl)
                  have e4 : w9.cell? ⟨wr.heap.size, 4, none⟩ = some (.int .i64 x4) := (hJ.cell (p := ⟨wr.heap.size, 4, none⟩) HXL.out).trans (cell_blk' HXA.out rfl)
                  have e5 : w9.cell? ⟨wr.heap.size, 5, none⟩ = some (.int .i64 x5) := (hJ.cell (p := ⟨wr.heap.size, 5, none⟩) HXL.out).trans (cell_blk' HXA.out rfl)
                  have e6 : w9.cell? ⟨wr.heap.size, 6, none⟩ = some (.int .i64 x6) := (hJ.cell (p := ⟨wr.heap.size, 6, none⟩) HXL.out).trans (cell_blk' HXA.out rfl)
                  have e7 : w9.cell? ⟨wr.heap.size, 7, none⟩ = some (.int .u32 x7) := (hJ.cell (p := ⟨wr.heap.size, 7, none⟩) HXL.out).trans (cell_blk' HXA.out rfl)
                  have e8 : w9.cell? ⟨wr.heap.size, 8, none⟩ = some (.int .i64 x8) := (hJ.cell (p := ⟨wr.heap.size, 8, none⟩) HXL.out).trans (cell_blk' HXA.out rfl)
                  clear hdep ho hJ
                  try simp only [fill, slotOf, List.size_toArray, List.length_cons, List.length_nil, Nat.reduceAdd, List.getElem?_toArray, List.getElem?_cons_zero, List.getElem?_cons_succ, Option.bind_some, Act.put, List.setIfInBounds_toArray, List.set_cons_zero, List.set_cons_succ] at hK ⊢
                  go_simp
                  exact hK (.agg #[.string x0, .int .i64 x1, .string x2, .int .i64 x3, .int .i64 x4, .int .i64 x5, .int .i64 x6, .int .u32 x7, .int .i64 x8]) _ HJ.out rfl (fun j y h => h) _ rfl
                · obtain rfl := Option.some.inj ho.symm
                  have d0 : V 0 = .agg #[.string x0, .int .i64 x1, .string x2, .int .i64 x3, .int .i64 x4, .int .i64 x5, .int .i64 x6, .int .u32 x7, .int .i64 x8] := hdep ⟨0, .data⟩ (by simp) rfl
                  clear hdep ho hJ
                  try simp only [fill, slotOf, List.size_toArray, List.length_cons, List.length_nil, Nat.reduceAdd, List.getElem?_toArray, List.getElem?_cons_zero, List.getElem?_cons_succ, Option.bind_some, Act.put, List.setIfInBounds_toArray, List.set_cons_zero, List.set_cons_succ] at hK ⊢
                  rw [d0] at hK ⊢
                  go_simp
                  refine (HRX.out w9 HJ.out).mono ?_
                  rintro e w8 ⟨rfl, hb8⟩
                  exact hK (.bool true) _ (HJ.out.trans (hb8.mono HJ.out.size)) rfl (FV.mono ((fun _ _ _ => trivial) hb8)) _ rfl
                · obtain rfl := Option.some.inj ho.symm
                  have d1 : V 1 = .bool true := hdep ⟨1, .data⟩ (by simp) rfl
                  clear hdep ho hJ
                  try simp only [fill, slotOf, List.size_toArray, List.length_cons, List.length_nil, Nat.reduceAdd, List.getElem?_toArray, List.getElem?_cons_zero, List.getElem?_cons_succ, Option.bind_some, Act.put, List.setIfInBounds_toArray, List.set_cons_zero, List.set_cons_succ] at hK ⊢
                  rw [d1] at hK ⊢
                  go_simp
                  exact hK (.bool false) _ HJ.out rfl (fun j y h => h) _ rfl
                · obtain rfl := Option.some.inj ho.symm
                  have d2 : V 2 = .bool false := hdep ⟨2, .data⟩ (by simp) rfl
                  clear hdep ho hJ
                  try simp only [fill, slotOf, List.size_toArray, List.length_cons, List.length_nil, Nat.reduceAdd, List.getElem?_toArray, List.getElem?_cons_zero, List.getElem?_cons_succ, Option.bind_some, Act.put, List.setIfInBounds_toArray, List.set_cons_zero, List.set_cons_succ] at hK ⊢
                  rw [d2] at hK ⊢
                  go_simp
                  exact hK (.bool false) _ HJ.out rfl (fun j y h => h) _ rfl
                · obtain rfl := Option.some.inj ho.symm
                  have d3 : V 3 = .bool false := hdep ⟨3, .guard⟩ (by simp) rfl
                  clear hdep ho hJ
                  try simp only [fill, slotOf, List.size_toArray, List.length_cons, List.length_nil, Nat.reduceAdd, List.getElem?_toArray, List.getElem?_cons_zero, List.getElem?_cons_succ, Option.bind_some, Act.put, List.setIfInBounds_toArray, List.set_cons_zero, List.set_cons_succ] at hK ⊢
                  rw [d3] at hK ⊢
                  go_simp
                  exact hK (.pointer (some ⟨wr.heap.size, 1, none⟩)) _ HJ.out rfl (fun j y h => h) _ rfl
                · obtain rfl := Option.some.inj ho.symm
                  have d4 : V 4 = .pointer (some ⟨wr.heap.size, 1, none⟩) := hdep ⟨4, .data⟩ (by simp) rfl
                  have d3 : V 3 = .bool false := hdep ⟨3, .guard⟩ (by simp) rfl
                  have e1 : w9.cell? ⟨wr.heap.size, 1, none⟩ = some (.int .i64 x1) := (hJ.cell (p := ⟨wr.heap.size, 1, none⟩) HXL.out).trans (cell_blk' HXA.out rfl)
                  clear hdep ho hJ
                  try simp only [fill, slotOf, List.size_toArray, List.length_cons, List.length_nil, Nat.reduceAdd, List.getElem?_toArray, List.getElem?_cons_zero, List.getElem?_cons_succ, Option.bind_some, Act.put, List.setIfInBounds_toArray, List.set_cons_zero, List.set_cons_succ] at hK ⊢
                  rw [d4, d3] at hK ⊢
                  go_simp
                  exact hK (.int .i64 x1) _ HJ.out rfl (fun j y h => h) _ rfl
                · obtain rfl := Option.some.inj ho.symm
                  have d3 : V 3 = .bool false := hdep ⟨3, .guard⟩ (by simp) rfl
                  clear hdep ho hJ
                  try simp only [fill, slotOf, List.size_toArray, List.length_cons, List.length_nil, Nat.reduceAdd, List.getElem?_toArray, List.getElem?_cons_zero, List.getElem?_cons_succ, Option.bind_some, Act.put, List.setIfInBounds_toArray, List.set_cons_zero, List.set_cons_succ] at hK ⊢
                  rw [d3] at hK ⊢
                  go_simp
                  exact hK (.pointer (some ⟨w.heap.size, 1, none⟩)) _ HJ.out rfl (fun j y h => h) _ rfl
                · obtain rfl := Option.some.inj ho.symm
                  have d6 : V 6 = .pointer (some ⟨w.heap.size, 1, none⟩) := hdep ⟨6, .data⟩ (by simp) rfl
                  have d3 : V 3 = .bool false := hdep ⟨3, .guard⟩ (by simp) rfl
                  have m1 : w9.cell? ⟨w.heap.size, 1, none⟩ = some (.int .i64 d) := (hJ.cell (p := ⟨w.heap.size, 1, none⟩) HML.out).trans (cell_blk' HMA.out rfl)
                  clear hdep ho hJ
                  try simp only [fill, slotOf, List.size_toArray, List.length_cons, List.length_nil, Nat.reduceAdd, List.getElem?_toArray, List.getElem?_cons_zero, List.getElem?_cons_succ, Option.bind_some, Act.put, List.setIfInBounds_toArray, List.set_cons_zero, List.set_cons_succ] at hK ⊢
                  rw [d6, d3] at hK ⊢
                  go_simp
                  exact hK (.int .i64 d) _ HJ.out rfl (fun j y h => h) _ rfl
                · obtain rfl := Option.some.inj ho.symm
                  have d5 : V 5 = .int .i64 x1 := hdep ⟨5, .data⟩ (by simp) rfl
                  have d7 : V 7 = .int .i64 d := hdep ⟨7, .data⟩ (by simp) rfl
                  have d3 : V 3 = .bool false := hdep ⟨3, .guard⟩ (by simp) rfl
                  have hz9 : decide (x1 < d) = false := HC.out
                  clear hdep ho hJ
                  try simp only [fill, slotOf, List.size_toArray, List.length_cons, List.length_nil, Nat.reduceAdd, List.getElem?_toArray, List.getElem?_cons_zero, List.getElem?_cons_succ, Option.bind_some, Act.put, List.setIfInBounds_toArray, List.set_cons_zero, List.set_cons_succ] at hK ⊢
                  rw [d5, d7, d3] at hK ⊢
                  go_simp
                  exact hK (.bool false) _ HJ.out rfl (fun j y h => h) _ rfl
                · obtain rfl := Option.some.inj ho.symm
                  have d3 : V 3 = .bool false := hdep ⟨3, .data⟩ (by simp) rfl
                  have d8 : V 8 = .bool false := hdep ⟨8, .data⟩ (by simp) rfl
                  clear hdep ho hJ
                  try simp only [fill, slotOf, List.size_toArray, List.length_cons, List.length_nil, Nat.reduceAdd, List.getElem?_toArray, List.getElem?_cons_zero, List.getElem?_cons_succ, Option.bind_some, Act.put, List.setIfInBounds_toArray, List.set_cons_zero, List.set_cons_succ] at hK ⊢
                  rw [d3, d8] at hK ⊢
                  go_simp
                  exact hK (.bool false) _ HJ.out rfl (fun j y h => h) _ rfl
                · obtain rfl := Option.some.inj ho.symm
                  have d9 : V 9 = .bool false := hdep ⟨9, .data⟩ (by simp) rfl
                  clear hdep ho hJ
                  try simp only [fill, slotOf, List.size_toArray, List.length_cons, List.length_nil, Nat.reduceAdd, List.getElem?_toArray, List.getElem?_cons_zero, List.getElem?_cons_succ, Option.bind_some, Act.put, List.setIfInBounds_toArray, List.set_cons_zero, List.set_cons_succ] at hK ⊢
                  rw [d9] at hK ⊢
                  go_simp
                  exact hK (.bool false) _ HJ.out rfl (fun j y h => h) _ rfl
                · obtain rfl := Option.some.inj ho.symm
                  have d10 : V 10 = .bool false := hdep ⟨10, .guard⟩ (by simp) rfl
                  clear hdep ho hJ
                  try simp only [fill, slotOf, List.size_toArray, List.length_cons, List.length_nil, Nat.reduceAdd, List.getElem?_toArray, List.getElem?_cons_zero, List.getElem?_cons_succ, Option.bind_some, Act.put, List.setIfInBounds_toArray, List.set_cons_zero, List.set_cons_succ] at hK ⊢
                  rw [d10] at hK ⊢
                  go_simp
                  exact hK (.int .i64 ((j : Int) + 1)) _ HJ.out rfl (fun j y h => h) _ rfl
                · obtain rfl := Option.some.inj ho.symm
                  have d11 : V 11 = .int .i64 ((j : Int) + 1) := hdep ⟨11, .data⟩ (by simp) rfl
                  have d10 : V 10 = .bool false := hdep ⟨10, .guard⟩ (by simp) rfl
                  have hk9 : decide ((j : Int) + 1 > 0) = true := decide_eq_true (by omega)
                  clear hdep ho hJ
                  try simp only [fill, slotOf, List.size_toArray, List.length_cons, List.length_nil, Nat.reduceAdd, List.getElem?_toArray, List.getElem?_cons_zero, List.getElem?_cons_succ, Option.bind_some, Act.put, List.setIfInBounds_toArray, List.set_cons_zero, List.set_cons_succ] at hK ⊢
                  rw [d11, d10] at hK ⊢
                  go_simp
                  exact hK (.bool true) _ HJ.out rfl (fun j y h => h) _ rfl
                · obtain rfl := Option.some.inj ho.symm
                  have d12 : V 12 = .bool true := hdep ⟨12, .data⟩ (by simp) rfl
                  have d10 : V 10 = .bool false := hdep ⟨10, .guard⟩ (by simp) rfl
                  clear hdep ho hJ
                  try simp only [fill, slotOf, List.size_toArray, List.length_cons, List.length_nil, Nat.reduceAdd, List.getElem?_toArray, List.getElem?_cons_zero, List.getElem?_cons_succ, Option.bind_some, Act.put, List.setIfInBounds_toArray, List.set_cons_zero, List.set_cons_succ] at hK ⊢
                  rw [d12, d10] at hK ⊢
                  go_simp
                  exact hK (.bool true) _ HJ.out rfl (fun j y h => h) _ rfl
                · obtain rfl := Option.some.inj ho.symm
                  have d13 : V 13 = .bool true := hdep ⟨13, .guard⟩ (by simp) rfl
                  clear hdep ho hJ
                  try simp only [fill, slotOf, List.size_toArray, List.length_cons, List.length_nil, Nat.reduceAdd, List.getElem?_toArray, List.getElem?_cons_zero, List.getElem?_cons_succ, Option.bind_some, Act.put, List.setIfInBounds_toArray, List.set_cons_zero, List.set_cons_succ] at hK ⊢
                  rw [d13] at hK ⊢
                  go_simp
                  exact hK (.pointer (some ⟨w.heap.size, 3, none⟩)) _ HJ.out rfl (fun j y h => h) _ rfl
                · obtain rfl := Option.some.inj ho.symm
                  have d14 : V 14 = .pointer (some ⟨w.heap.size, 3, none⟩) := hdep ⟨14, .data⟩ (by simp) rfl
                  have d13 : V 13 = .bool true := hdep ⟨13, .guard⟩ (by simp) rfl
                  have m3 : w9.cell? ⟨w.heap.size, 3, none⟩ = some (.slice (some ⟨sb, so, none⟩) en ec) := (hJ.cell (p := ⟨w.heap.size, 3, none⟩) HML.out).trans (cell_blk' HMA.out rfl)
                  clear hdep ho hJ
                  try simp only [fill, slotOf, List.size_toArray, List.length_cons, List.length_nil, Nat.reduceAdd, List.getElem?_toArray, List.getElem?_cons_zero, List.getElem?_cons_succ, Option.bind_some, Act.put, List.setIfInBounds_toArray, List.set_cons_zero, List.set_cons_succ] at hK ⊢
                  rw [d14, d13] at hK ⊢
                  go_simp
                  exact hK (.slice (some ⟨sb, so, none⟩) en ec) _ HJ.out rfl (fun j y h => h) _ rfl
                · obtain rfl := Option.some.inj ho.symm
                  have d13 : V 13 = .bool true := hdep ⟨13, .guard⟩ (by simp) rfl
                  clear hdep ho hJ
                  try simp only [fill, slotOf, List.size_toArray, List.length_cons, List.length_nil, Nat.reduceAdd, List.getElem?_toArray, List.getElem?_cons_zero, List.getElem?_cons_succ, Option.bind_some, Act.put, List.setIfInBounds_toArray, List.set_cons_zero, List.set_cons_succ] at hK ⊢
                  rw [d13] at hK ⊢
                  go_simp
                  exact hK (.int .i64 ((j : Int) + 1)) _ HJ.out rfl (fun j y h => h) _ rfl
                · obtain rfl := Option.some.inj ho.symm
                  have d16 : V 16 = .int .i64 ((j : Int) + 1) := hdep ⟨16, .data⟩ (by simp) rfl
                  have d13 : V 13 = .bool true := hdep ⟨13, .guard⟩ (by simp) rfl
                  have hw1 : IntKind.i64.wrap (j : Int) = (j : Int) := IntWalk.i64_in _ (by omega)
                  have hw2 : IntKind.i64.wrap ((j : Int) + 1 - 1) = (j : Int) := by rw [Int.add_sub_cancel]; exact hw1
                  clear hdep ho hJ
                  try simp only [fill, slotOf, List.size_toArray, List.length_cons, List.length_nil, Nat.reduceAdd, List.getElem?_toArray, List.getElem?_cons_zero, List.getElem?_cons_succ, Option.bind_some, Act.put, List.setIfInBounds_toArray, List.set_cons_zero, List.set_cons_succ] at hK ⊢
                  rw [d16, d13] at hK ⊢
                  go_simp
                  exact hK (.int .i64 (j : Int)) _ HJ.out rfl (fun j y h => h) _ rfl
                · obtain rfl := Option.some.inj ho.symm
                  have d15 : V 15 = .slice (some ⟨sb, so, none⟩) en ec := hdep ⟨15, .data⟩ (by simp) rfl
                  have d17 : V 17 = .int .i64 (j : Int) := hdep ⟨17, .data⟩ (by simp) rfl
                  have d13 : V 13 = .bool true := hdep ⟨13, .guard⟩ (by simp) rfl
                  have hjn : j < en := by omega
                  have hjn2 : (j : Int) < (en : Int) := by omega
                  clear hdep ho hJ
                  try simp only [fill, slotOf, List.size_toArray, List.length_cons, List.length_nil, Nat.reduceAdd, List.getElem?_toArray, List.getElem?_cons_zero, List.getElem?_cons_succ, Option.bind_some, Act.put, List.setIfInBounds_toArray, List.set_cons_zero, List.set_cons_succ] at hK ⊢
                  rw [d15, d17, d13] at hK ⊢
                  go_simp
                  exact hK (.pointer (some ⟨sb, so + j * 9, none⟩)) _ HJ.out rfl (fun j y h => h) _ rfl
                · obtain rfl := Option.some.inj ho.symm
                  have d18 : V 18 = .pointer (some ⟨sb, so + j * 9, none⟩) := hdep ⟨18, .data⟩ (by simp) rfl
                  have d13 : V 13 = .bool true := hdep ⟨13, .guard⟩ (by simp) rfl
                  clear hdep ho hJ
                  try simp only [fill, slotOf, List.size_toArray, List.length_cons, List.length_nil, Nat.reduceAdd, List.getElem?_toArray, List.getElem?_cons_zero, List.getElem?_cons_succ, Option.bind_some, Act.put, List.setIfInBounds_toArray, List.set_cons_zero, List.set_cons_succ] at hK ⊢
                  rw [d18, d13] at hK ⊢
                  go_simp
                  exact hK (.pointer (some ⟨sb, so + j * 9, none⟩)) _ HJ.out rfl (fun j y h => h) _ rfl
                · obtain rfl := Option.some.inj ho.symm
                  have d19 : V 19 = .pointer (some ⟨sb, so + j * 9, none⟩) := hdep ⟨19, .data⟩ (by simp) rfl
                  have d13 : V 13 = .bool true := hdep ⟨13, .guard⟩ (by simp) rfl
                  have u0 : w9.cell? ⟨sb, so + j * 9, none⟩ = some (.string y0) := (hJ.cell (p := ⟨sb, so + j * 9 + 0, none⟩) HSL.out).trans (HSY.out 0 _ rfl)
                  clear hdep ho hJ
                  try simp only [fill, slotOf, List.size_toArray, List.length_cons, List.length_nil, Nat.reduceAdd, List.getElem?_toArray, List.getElem?_cons_zero, List.getElem?_cons_succ, Option.bind_some, Act.put, List.setIfInBounds_toArray, List.set_cons_zero, List.set_cons_succ] at hK ⊢
                  rw [d19, d13] at hK ⊢
                  go_simp
                  exact hK (.string y0) _ HJ.out rfl (fun j y h => h) _ rfl
                · obtain rfl := Option.some.inj ho.symm
                  have d13 : V 13 = .bool true := hdep ⟨13, .guard⟩ (by simp) rfl
                  clear hdep ho hJ
                  try simp only [fill, slotOf, List.size_toArray, List.length_cons, List.length_nil, Nat.reduceAdd, List.getElem?_toArray, List.getElem?_cons_zero, List.getElem?_cons_succ, Option.bind_some, Act.put, List.setIfInBounds_toArray, List.set_cons_zero, List.set_cons_succ] at hK ⊢
                  rw [d13] at hK ⊢
                  go_simp
                  exact hK (.pointer (some ⟨wr.heap.size, 0, none⟩)) _ HJ.out rfl (fun j y h => h) _ rfl
                · obtain rfl := Option.some.inj ho.symm
                  have d21 : V 21 = .pointer (some ⟨wr.heap.size, 0, none⟩) := hdep ⟨21, .data⟩ (by simp) rfl
                  have d13 : V 13 = .bool true := hdep ⟨13, .guard⟩ (by simp) rfl
                  have e0 : w9.cell? ⟨wr.heap.size, 0, none⟩ = some (.string x0) := (hJ.cell (p := ⟨wr.heap.size, 0, none⟩) HXL.out).trans (cell_blk' HXA.out rfl)
                  clear hdep ho hJ
                  try simp only [fill, slotOf, List.size_toArray, List.length_cons, List.length_nil, Nat.reduceAdd, List.getElem?_toArray, List.getElem?_cons_zero, List.getElem?_cons_succ, Option.bind_some, Act.put, List.setIfInBounds_toArray, List.set_cons_zero, List.set_cons_succ] at hK ⊢
                  rw [d21, d13] at hK ⊢
                  go_simp
                  exact hK (.string x0) _ HJ.out rfl (fun j y h => h) _ rfl
                · obtain rfl := Option.some.inj ho.symm
                  have d20 : V 20 = .string y0 := hdep ⟨20, .data⟩ (by simp) rfl
                  have d22 : V 22 = .string x0 := hdep ⟨22, .data⟩ (by simp) rfl
                  have d13 : V 13 = .bool true := hdep ⟨13, .guard⟩ (by simp) rfl
                  have hz9 : Op.bytesLess y0.toList x0.toList = false := HZ.out
                  clear hdep ho hJ
                  try simp only [fill, slotOf, List.size_toArray, List.length_cons, List.length_nil, Nat.reduceAdd, List.getElem?_toArray, List.getElem?_cons_zero, List.getElem?_cons_succ, Option.bind_some, Act.put, List.setIfInBounds_toArray, List.set_cons_zero, List.set_cons_succ] at hK ⊢
                  rw [d20, d22, d13] at hK ⊢
                  go_simp
                  exact hK (.bool true) _ HJ.out rfl (fun j y h => h) _ rfl
                · obtain rfl := Option.some.inj ho.symm
                  have d13 : V 13 = .bool true := hdep ⟨13, .data⟩ (by simp) rfl
                  have d23 : V 23 = .bool true := hdep ⟨23, .data⟩ (by simp) rfl
                  have d10 : V 10 = .bool false := hdep ⟨10, .guard⟩ (by simp) rfl
                  clear hdep ho hJ
                  try simp only [fill, slotOf, List.size_toArray, List.length_cons, List.length_nil, Nat.reduceAdd, List.getElem?_toArray, List.getElem?_cons_zero, List.getElem?_cons_succ, Option.bind_some, Act.put, List.setIfInBounds_toArray, List.set_cons_zero, List.set_cons_succ] at hK ⊢
                  rw [d13, d23, d10] at hK ⊢
                  go_simp
                  exact hK (.bool true) _ HJ.out rfl (fun j y h => h) _ rfl
                · obtain rfl := Option.some.inj ho.symm
                  have d10 : V 10 = .bool false := hdep ⟨10, .data⟩ (by simp) rfl
                  have d24 : V 24 = .bool true := hdep ⟨24, .data⟩ (by simp) rfl
                  clear hdep ho hJ
                  try simp only [fill, slotOf, List.size_toArray, List.length_cons, List.length_nil, Nat.reduceAdd, List.getElem?_toArray, List.getElem?_cons_zero, List.getElem?_cons_succ, Option.bind_some, Act.put, List.setIfInBounds_toArray, List.set_cons_zero, List.set_cons_succ] at hK ⊢
                  rw [d10, d24] at hK ⊢
                  go_simp
                  exact hK (.bool true) _ HJ.out rfl (fun j y h => h) _ rfl
              · intro V w9 hJ hall
                have dL : V 25 = .bool true := hall 25 (by decide)
                have HJ9 := Lib.hid hJ
                clear hall hJ
                simp only [fill, slotOf, List.size_toArray, List.length_cons, List.length_nil, Nat.reduceAdd, List.getElem?_toArray, List.getElem?_cons_zero, List.getElem?_cons_succ, Option.bind_some, Act.put, List.setIfInBounds_toArray, List.set_cons_zero, List.set_cons_succ]
                rw [dL]
                clear dL
                have HBZ := Lib.hid (HBM.out.trans ((HAL.out.trans (HJ9.out.mono HAL.out.size)).mono HBM.out.size))
                go_wp2_with fail
                go_ret
                exact ⟨HNO.out, HBZ.out⟩
            | true =>
              have HZ := Lib.hid hge
              have HOK2 := Lib.hid (HOK.out.succ (by rw [← HSE.out]; show (entB _ (pfS x2 == 0) && decide (d ≤ x1)) = true; rw [pfS_is, ← HBX.out, decide_eq_true (show d ≤ x1 from by have := of_decide_eq_false HC.out; omega)]; rfl) (fun _ => by rw [← HSE.out, ← HRE.out]; exact (cmpS_lt9 y0 x0).2 hge))
              clear hbx hge
              refine wp_region_fill (by kernel_rfl) (by kernel_rfl) (by kernel_rfl) (Below (wr.alloc (.cells #[.string x0, .int .i64 x1, .string x2, .int .i64 x3, .int .i64 x4, .int .i64 x5, .int .i64 x6, .int .u32 x7, .int .i64 x8] 53)).heap.size (wr.alloc (.cells #[.string x0, .int .i64 x1, .string x2, .int .i64 x3, .int .i64 x4, .int .i64 x5, .int .i64 x6, .int .u32 x7, .int .i64 x8] 53))) (FV (fun j_9 => match j_9 with | 0 => some (.agg #[.string x0, .int .i64 x1, .string x2, .int .i64 x3, .int .i64 x4, .int .i64 x5, .int .i64 x6, .int .u32 x7, .int .i64 x8]) | 1 => some (.bool true) | 2 => some (.bool false) | 3 => some (.bool false) | 4 => some (.pointer (some ⟨wr.heap.size, 1, none⟩)) | 5 => some (.int .i64 x1) | 6 => some (.pointer (some ⟨w.heap.size, 1, none⟩)) | 7 => some (.int .i64 d) | 8 => some (.bool false) | 9 => some (.bool false) | 10 => some (.bool false) | 11 => some (.int .i64 ((j : Int) + 1)) | 12 => some (.bool true) | 13 => some (.bool true) | 14 => some (.pointer (some ⟨w.heap.size, 3, none⟩)) | 15 => some (.slice (some ⟨sb, so, none⟩) en ec) | 16 => some (.int .i64 ((j : Int) + 1)) | 17 => some (.int .i64 (j : Int)) | 18 => some (.pointer (some ⟨sb, so + j * 9, none⟩)) | 19 => some (.pointer (some ⟨sb, so + j * 9, none⟩)) | 20 => some (.string y0) | 21 => some (.pointer (some ⟨wr.heap.size, 0, none⟩)) | 22 => some (.string x0) | 23 => some (.bool false) | 24 => some (.bool false) | 25 => some (.bool false) | _ => none) (fun _ _ => True)) (Below.refl _ _).drew ?_ ?_
              · intro i9 o ho V w9 K hJ hdep hK
                have HJ := Lib.hid hJ
                simp only [fill, slotOf, List.size_toArray, List.length_cons, List.length_nil, Nat.reduceAdd, List.getElem?_toArray, List.getElem?_cons_zero, List.getElem?_cons_succ, Option.bind_some, Act.put, List.setIfInBounds_toArray, List.set_cons_zero, List.set_cons_succ] at hK ⊢
                have hin : i9 < 26 := (Array.getElem?_eq_some_iff.1 ho).1
                have hcs : i9 = 0 ∨ i9 = 1 ∨ i9 = 2 ∨ i9 = 3 ∨ i9 = 4 ∨ i9 = 5 ∨ i9 = 6 ∨ i9 = 7 ∨ i9 = 8 ∨ i9 = 9 ∨ i9 = 10 ∨ i9 = 11 ∨ i9 = 12 ∨ i9 = 13 ∨ i9 = 14 ∨ i9 = 15 ∨ i9 = 16 ∨ i9 = 17 ∨ i9 = 18 ∨ i9 = 19 ∨ i9 = 20 ∨ i9 = 21 ∨ i9 = 22 ∨ i9 = 23 ∨ i9 = 24 ∨ i9 = 25 := by omega
                clear hin
                rcases hcs with rfl | rfl | rfl | rfl | rfl | rfl | rfl | rfl | rfl | rfl | rfl | rfl | rfl | rfl | rfl | rfl | rfl | rfl | rfl | rfl | rfl | rfl | rfl | rfl | rfl | rfl
                · obtain rfl := Option.some.inj ho.symm
                  have e0 : w9.cell? ⟨wr.heap.size, 0, none⟩ = some (.string x0) := (hJ.cell (p := ⟨wr.heap.size, 0, none⟩) HXL.out).trans (cell_blk' HXA.out rfl)
                  have e1 : w9.cell? ⟨wr.heap.size, 1, none⟩ = some (.int .i64 x1) := (hJ.cell (p := ⟨wr.heap.size, 1, none⟩) HXL.out).trans (cell_blk' HXA.out rfl)
                  have e2 : w9.cell? ⟨wr.heap.size, 2, none⟩ = some (.string x2) := (hJ.cell (p := ⟨wr.heap.size, 2, none⟩) HXL.out).trans (cell_blk' HXA.out rfl)
                  have e3 : w9.cell? ⟨wr.heap.size, 3, none⟩ = some (.int .i64 x3) := (hJ.cell (p := ⟨wr.heap.size, 3, none⟩) HXL.out).trans (cell_blk' HXA.out rfl)
                  have e4 : w9.cell? ⟨wr.heap.size, 4, none⟩ = some (.int .i64 x4) := (hJ.cell (p := ⟨wr.heap.size, 4, none⟩) HXL.out).trans (cell_blk' HXA.out rfl)
                  have e5 : w9.cell? ⟨wr.heap.size, 5, none⟩ = some (.int .i64 x5) := (hJ.cell (p := ⟨wr.heap.size, 5, none⟩) HXL.out).trans (cell_blk' HXA.out rfl)
                  have e6 : w9.cell? ⟨wr.heap.size, 6, none⟩ = some (.int .i64 x6) := (hJ.cell (p := ⟨wr.heap.size, 6, none⟩) HXL.out).trans (cell_blk' HXA.out rfl)
                  have e7 : w9.cell? ⟨wr.heap.size, 7, none⟩ = some (.int .u32 x7) := (hJ.cell (p := ⟨wr.heap.size, 7, none⟩) HXL.out).trans (cell_blk' HXA.out rfl)
                  have e8 : w9.cell? ⟨wr.heap.size, 8, none⟩ = some (.int .i64 x8) := (hJ.cell (p := ⟨wr.heap.size, 8, none⟩) HXL.out).trans (cell_blk' HXA.out rfl)
                  clear hdep ho hJ
                  try simp only [fill, slotOf, List.size_toArray, List.length_cons, List.length_nil, Nat.reduceAdd, List.getElem?_toArray, List.getElem?_cons_zero, List.getElem?_cons_succ, Option.bind_some, Act.put, List.setIfInBounds_toArray, List.set_cons_zero, List.set_cons_succ] at hK ⊢
                  go_simp
                  exact hK (.agg #[.string x0, .int .i64 x1, .string x2, .int .i64 x3, .int .i64 x4, .int .i64 x5, .int .i64 x6, .int .u32 x7, .int .i64 x8]) _ HJ.out rfl (fun j y h => h) _ rfl
                · obtain rfl := Option.some.inj ho.symm
                  have d0 : V 0 = .agg #[.string x0, .int .i64 x1, .string x2, .int .i64 x3, .int .i64 x4, .int .i64 x5, .int .i64 x6, .int .u32 x7, .int .i64 x8] := hdep ⟨0, .data⟩ (by simp) rfl
                  clear hdep ho hJ
                  try simp only [fill, slotOf, List.size_toArray, List.length_cons, List.length_nil, Nat.reduceAdd, List.getElem?_toArray, List.getElem?_cons_zero, List.getElem?_cons_succ, Option.bind_some, Act.put, List.setIfInBounds_toArray, List.set_cons_zero, List.set_cons_succ] at hK ⊢
                  rw [d0] at hK ⊢
                  go_simp
                  refine (HRX.out w9 HJ.out).mono ?_
                  rintro e w8 ⟨rfl, hb8⟩
                  exact hK (.bool true) _ (HJ.out.trans (hb8.mono HJ.out.size)) rfl (FV.mono ((fun _ _ _ => trivial) hb8)) _ rfl
                · obtain rfl := Option.some.inj ho.symm
                  have d1 : V 1 = .bool true := hdep ⟨1, .data⟩ (by simp) rfl
                  clear hdep ho hJ
                  try simp only [fill, slotOf, List.size_toArray, List.length_cons, List.length_nil, Nat.reduceAdd, List.getElem?_toArray, List.getElem?_cons_zero, List.getElem?_cons_succ, Option.bind_some, Act.put, List.setIfInBounds_toArray, List.set_cons_zero, List.set_cons_succ] at hK ⊢
                  rw [d1] at hK ⊢
                  go_simp
                  exact hK (.bool false) _ HJ.out rfl (fun j y h => h) _ rfl
                · obtain rfl := Option.some.inj ho.symm
                  have d2 : V 2 = .bool false := hdep ⟨2, .data⟩ (by simp) rfl
                  clear hdep ho hJ
                  try simp only [fill, slotOf, List.size_toArray, List.length_cons, List.length_nil, Nat.reduceAdd, List.getElem?_toArray, List.getElem?_cons_zero, List.getElem?_cons_succ, Option.bind_some, Act.put, List.setIfInBounds_toArray, List.set_cons_zero, List.set_cons_succ] at hK ⊢
                  rw [d2] at hK ⊢
                  go_simp
                  exact hK (.bool false) _ HJ.out rfl (fun j y h => h) _ rfl
                · obtain rfl := Option.some.inj ho.symm
                  have d3 : V 3 = .bool false := hdep ⟨3, .guard⟩ (by simp) rfl
                  clear hdep ho hJ
                  try simp only [fill, slotOf, List.size_toArray, List.length_cons, List.length_nil, Nat.reduceAdd, List.getElem?_toArray, List.getElem?_cons_zero, List.getElem?_cons_succ, Option.bind_some, Act.put, List.setIfInBounds_toArray, List.set_cons_zero, List.set_cons_succ] at hK ⊢
                  rw [d3] at hK ⊢
                  go_simp
                  exact hK (.pointer (some ⟨wr.heap.size, 1, none⟩)) _ HJ.out rfl (fun j y h => h) _ rfl
                · obtain rfl := Option.some.inj ho.symm
                  have d4 : V 4 = .pointer (some ⟨wr.heap.size, 1, none⟩) := hdep ⟨4, .data⟩ (by simp) rfl
                  have d3 : V 3 = .bool false := hdep ⟨3, .guard⟩ (by simp) rfl
                  have e1 : w9.cell? ⟨wr.heap.size, 1, none⟩ = some (.int .i64 x1) := (hJ.cell (p := ⟨wr.heap.size, 1, none⟩) HXL.out).trans (cell_blk' HXA.out rfl)
                  clear hdep ho hJ
                  try simp only [fill, slotOf, List.size_toArray, List.length_cons, List.length_nil, Nat.reduceAdd, List.getElem?_toArray, List.getElem?_cons_zero, List.getElem?_cons_succ, Option.bind_some, Act.put, List.setIfInBounds_toArray, List.set_cons_zero, List.set_cons_succ] at hK ⊢
                  rw [d4, d3] at hK ⊢
                  go_simp
                  exact hK (.int .i64 x1) _ HJ.out rfl (fun j y h => h) _ rfl
                · obtain rfl := Option.some.inj ho.symm
                  have d3 : V 3 = .bool false := hdep ⟨3, .guard⟩ (by simp) rfl
                  clear hdep ho hJ
                  try simp only [fill, slotOf, List.size_toArray, List.length_cons, List.length_nil, Nat.reduceAdd, List.getElem?_toArray, List.getElem?_cons_zero, List.getElem?_cons_succ, Option.bind_some, Act.put, List.setIfInBounds_toArray, List.set_cons_zero, List.set_cons_succ] at hK ⊢
                  rw [d3] at hK ⊢
                  go_simp
                  exact hK (.pointer (some ⟨w.heap.size, 1, none⟩)) _ HJ.out rfl (fun j y h => h) _ rfl
                · obtain rfl := Option.some.inj ho.symm
                  have d6 : V 6 = .pointer (some ⟨w.heap.size, 1, none⟩) := hdep ⟨6, .data⟩ (by simp) rfl
                  have d3 : V 3 = .bool false := hdep ⟨3, .guard⟩ (by simp) rfl
                  have m1 : w9.cell? ⟨w.heap.size, 1, none⟩ = some (.int .i64 d) := (hJ.cell (p := ⟨w.heap.size, 1, none⟩) HML.out).trans (cell_blk' HMA.out rfl)
                  clear hdep ho hJ
                  try simp only [fill, slotOf, List.size_toArray, List.length_cons, List.length_nil, Nat.reduceAdd, List.getElem?_toArray, List.getElem?_cons_zero, List.getElem?_cons_succ, Option.bind_some, Act.put, List.setIfInBounds_toArray, List.set_cons_zero, List.set_cons_succ] at hK ⊢
                  rw [d6, d3] at hK ⊢
                  go_simp
                  exact hK (.int .i64 d) _ HJ.out rfl (fun j y h => h) _ rfl
                · obtain rfl := Option.some.inj ho.symm
                  have d5 : V 5 = .int .i64 x1 := hdep ⟨5, .data⟩ (by simp) rfl
                  have d7 : V 7 = .int .i64 d := hdep ⟨7, .data⟩ (by simp) rfl
                  have d3 : V 3 = .bool false := hdep ⟨3, .guard⟩ (by simp) rfl
                  have hz9 : decide (x1 < d) = false := HC.out
                  clear hdep ho hJ
                  try simp only [fill, slotOf, List.size_toArray, List.length_cons, List.length_nil, Nat.reduceAdd, List.getElem?_toArray, List.getElem?_cons_zero, List.getElem?_cons_succ, Option.bind_some, Act.put, List.setIfInBounds_toArray, List.set_cons_zero, List.set_cons_succ] at hK ⊢
                  rw [d5, d7, d3] at hK ⊢
                  go_simp
                  exact hK (.bool false) _ HJ.out rfl (fun j y h => h) _ rfl
                · obtain rfl := Option.some.inj ho.symm
                  have d3 : V 3 = .bool false := hdep ⟨3, .data⟩ (by simp) rfl
                  have d8 : V 8 = .bool false := hdep ⟨8, .data⟩ (by simp) rfl
                  clear hdep ho hJ
                  try simp only [fill, slotOf, List.size_toArray, List.length_cons, List.length_nil, Nat.reduceAdd, List.getElem?_toArray, List.getElem?_cons_zero, List.getElem?_cons_succ, Option.bind_some, Act.put, List.setIfInBounds_toArray, List.set_cons_zero, List.set_cons_succ] at hK ⊢
                  rw [d3, d8] at hK ⊢
                  go_simp
                  exact hK (.bool false) _ HJ.out rfl (fun j y h => h) _ rfl
                · obtain rfl := Option.some.inj ho.symm
                  have d9 : V 9 = .bool false := hdep ⟨9, .data⟩ (by simp) rfl
                  clear hdep ho hJ
                  try simp only [fill, slotOf, List.size_toArray, List.length_cons, List.length_nil, Nat.reduceAdd, List.getElem?_toArray, List.getElem?_cons_zero, List.getElem?_cons_succ, Option.bind_some, Act.put, List.setIfInBounds_toArray, List.set_cons_zero, List.set_cons_succ] at hK ⊢
                  rw [d9] at hK ⊢
                  go_simp
                  exact hK (.bool false) _ HJ.out rfl (fun j y h => h) _ rfl
                · obtain rfl := Option.some.inj ho.symm
                  have d10 : V 10 = .bool false := hdep ⟨10, .guard⟩ (by simp) rfl
                  clear hdep ho hJ
                  try simp only [fill, slotOf, List.size_toArray, List.length_cons, List.length_nil, Nat.reduceAdd, List.getElem?_toArray, List.getElem?_cons_zero, List.getElem?_cons_succ, Option.bind_some, Act.put, List.setIfInBounds_toArray, List.set_cons_zero, List.set_cons_succ] at hK ⊢
                  rw [d10] at hK ⊢
                  go_simp
                  exact hK (.int .i64 ((j : Int) + 1)) _ HJ.out rfl (fun j y h => h) _ rfl
                · obtain rfl := Option.some.inj ho.symm
                  have d11 : V 11 = .int .i64 ((j : Int) + 1) := hdep ⟨11, .data⟩ (by simp) rfl
                  have d10 : V 10 = .bool false := hdep ⟨10, .guard⟩ (by simp) rfl
                  have hk9 : decide ((j : Int) + 1 > 0) = true := decide_eq_true (by omega)
                  clear hdep ho hJ
                  try simp only [fill, slotOf, List.size_toArray, List.length_cons, List.length_nil, Nat.reduceAdd, List.getElem?_toArray, List.getElem?_cons_zero, List.getElem?_cons_succ, Option.bind_some, Act.put, List.setIfInBounds_toArray, List.set_cons_zero, List.set_cons_succ] at hK ⊢
                  rw [d11, d10] at hK ⊢
                  go_simp
                  exact hK (.bool true) _ HJ.out rfl (fun j y h => h) _ rfl
                · obtain rfl := Option.some.inj ho.symm
                  have d12 : V 12 = .bool true := hdep ⟨12, .data⟩ (by simp) rfl
                  have d10 : V 10 = .bool false := hdep ⟨10, .guard⟩ (by simp) rfl
                  clear hdep ho hJ
                  try simp only [fill, slotOf, List.size_toArray, List.length_cons, List.length_nil, Nat.reduceAdd, List.getElem?_toArray, List.getElem?_cons_zero, List.getElem?_cons_succ, Option.bind_some, Act.put, List.setIfInBounds_toArray, List.set_cons_zero, List.set_cons_succ] at hK ⊢
                  rw [d12, d10] at hK ⊢
                  go_simp
                  exact hK (.bool true) _ HJ.out rfl (fun j y h => h) _ rfl
                · obtain rfl := Option.some.inj ho.symm
                  have d13 : V 13 = .bool true := hdep ⟨13, .guard⟩ (by simp) rfl
                  clear hdep ho hJ
                  try simp only [fill, slotOf, List.size_toArray, List.length_cons, List.length_nil, Nat.reduceAdd, List.getElem?_toArray, List.getElem?_cons_zero, List.getElem?_cons_succ, Option.bind_some, Act.put, List.setIfInBounds_toArray, List.set_cons_zero, List.set_cons_succ] at hK ⊢
                  rw [d13] at hK ⊢
                  go_simp
                  exact hK (.pointer (some ⟨w.heap.size, 3, none⟩)) _ HJ.out rfl (fun j y h => h) _ rfl
                · obtain rfl := Option.some.inj ho.symm
                  have d14 : V 14 = .pointer (some ⟨w.heap.size, 3, none⟩) := hdep ⟨14, .data⟩ (by simp) rfl
                  have d13 : V 13 = .bool true := hdep ⟨13, .guard⟩ (by simp) rfl
                  have m3 : w9.cell? ⟨w.heap.size, 3, none⟩ = some (.slice (some ⟨sb, so, none⟩) en ec) := (hJ.cell (p := ⟨w.heap.size, 3, none⟩) HML.out).trans (cell_blk' HMA.out rfl)
                  clear hdep ho hJ
                  try simp only [fill, slotOf, List.size_toArray, List.length_cons, List.length_nil, Nat.reduceAdd, List.getElem?_toArray, List.getElem?_cons_zero, List.getElem?_cons_succ, Option.bind_some, Act.put, List.setIfInBounds_toArray, List.set_cons_zero, List.set_cons_succ] at hK ⊢
                  rw [d14, d13] at hK ⊢
                  go_simp
                  exact hK (.slice (some ⟨sb, so, none⟩) en ec) _ HJ.out rfl (fun j y h => h) _ rfl
                · obtain rfl := Option.some.inj ho.symm
                  have d13 : V 13 = .bool true := hdep ⟨13, .guard⟩ (by simp) rfl
                  clear hdep ho hJ
                  try simp only [fill, slotOf, List.size_toArray, List.length_cons, List.length_nil, Nat.reduceAdd, List.getElem?_toArray, List.getElem?_cons_zero, List.getElem?_cons_succ, Option.bind_some, Act.put, List.setIfInBounds_toArray, List.set_cons_zero, List.set_cons_succ] at hK ⊢
                  rw [d13] at hK ⊢
                  go_simp
                  exact hK (.int .i64 ((j : Int) + 1)) _ HJ.out rfl (fun j y h => h) _ rfl
                · obtain rfl := Option.some.inj ho.symm
                  have d16 : V 16 = .int .i64 ((j : Int) + 1) := hdep ⟨16, .data⟩ (by simp) rfl
                  have d13 : V 13 = .bool true := hdep ⟨13, .guard⟩ (by simp) rfl
                  have hw1 : IntKind.i64.wrap (j : Int) = (j : Int) := IntWalk.i64_in _ (by omega)
                  have hw2 : IntKind.i64.wrap ((j : Int) + 1 - 1) = (j : Int) := by rw [Int.add_sub_cancel]; exact hw1
                  clear hdep ho hJ
                  try simp only [fill, slotOf, List.size_toArray, List.length_cons, List.length_nil, Nat.reduceAdd, List.getElem?_toArray, List.getElem?_cons_zero, List.getElem?_cons_succ, Option.bind_some, Act.put, List.setIfInBounds_toArray, List.set_cons_zero, List.set_cons_succ] at hK ⊢
                  rw [d16, d13] at hK ⊢
                  go_simp
                  exact hK (.int .i64 (j : Int)) _ HJ.out rfl (fun j y h => h) _ rfl
                · obtain rfl := Option.some.inj ho.symm
                  have d15 : V 15 = .slice (some ⟨sb, so, none⟩) en ec := hdep ⟨15, .data⟩ (by simp) rfl
                  have d17 : V 17 = .int .i64 (j : Int) := hdep ⟨17, .data⟩ (by simp) rfl
                  have d13 : V 13 = .bool true := hdep ⟨13, .guard⟩ (by simp) rfl
                  have hjn : j < en := by omega
                  have hjn2 : (j : Int) < (en : Int) := by omega
                  clear hdep ho hJ
                  try simp only [fill, slotOf, List.size_toArray, List.length_cons, List.length_nil, Nat.reduceAdd, List.getElem?_toArray, List.getElem?_cons_zero, List.getElem?_cons_succ, Option.bind_some, Act.put, List.setIfInBounds_toArray, List.set_cons_zero, List.set_cons_succ] at hK ⊢
                  rw [d15, d17, d13] at hK ⊢
                  go_simp
                  exact hK (.pointer (some ⟨sb, so + j * 9, none⟩)) _ HJ.out rfl (fun j y h => h) _ rfl
                · obtain rfl := Option.some.inj ho.symm
                  have d18 : V 18 = .pointer (some ⟨sb, so + j * 9, none⟩) := hdep ⟨18, .data⟩ (by simp) rfl
                  have d13 : V 13 = .bool true := hdep ⟨13, .guard⟩ (by simp) rfl
                  clear hdep ho hJ
                  try simp only [fill, slotOf, List.size_toArray, List.length_cons, List.length_nil, Nat.reduceAdd, List.getElem?_toArray, List.getElem?_cons_zero, List.getElem?_cons_succ, Option.bind_some, Act.put, List.setIfInBounds_toArray, List.set_cons_zero, List.set_cons_succ] at hK ⊢
                  rw [d18, d13] at hK ⊢
                  go_simp
                  exact hK (.pointer (some ⟨sb, so + j * 9, none⟩)) _ HJ.out rfl (fun j y h => h) _ rfl
                · obtain rfl := Option.some.inj ho.symm
                  have d19 : V 19 = .pointer (some ⟨sb, so + j * 9, none⟩) := hdep ⟨19, .data⟩ (by simp) rfl
                  have d13 : V 13 = .bool true := hdep ⟨13, .guard⟩ (by simp) rfl
                  have u0 : w9.cell? ⟨sb, so + j * 9, none⟩ = some (.string y0) := (hJ.cell (p := ⟨sb, so + j * 9 + 0, none⟩) HSL.out).trans (HSY.out 0 _ rfl)
                  clear hdep ho hJ
                  try simp only [fill, slotOf, List.size_toArray, List.length_cons, List.length_nil, Nat.reduceAdd, List.getElem?_toArray, List.getElem?_cons_zero, List.getElem?_cons_succ, Option.bind_some, Act.put, List.setIfInBounds_toArray, List.set_cons_zero, List.set_cons_succ] at hK ⊢
                  rw [d19, d13] at hK ⊢
                  go_simp
                  exact hK (.string y0) _ HJ.out rfl (fun j y h => h) _ rfl
                · obtain rfl := Option.some.inj ho.symm
                  have d13 : V 13 = .bool true := hdep ⟨13, .guard⟩ (by simp) rfl
                  clear hdep ho hJ
                  try simp only [fill, slotOf, List.size_toArray, List.length_cons, List.length_nil, Nat.reduceAdd, List.getElem?_toArray, List.getElem?_cons_zero, List.getElem?_cons_succ, Option.bind_some, Act.put, List.setIfInBounds_toArray, List.set_cons_zero, List.set_cons_succ] at hK ⊢
                  rw [d13] at hK ⊢
                  go_simp
                  exact hK (.pointer (some ⟨wr.heap.size, 0, none⟩)) _ HJ.out rfl (fun j y h => h) _ rfl
                · obtain rfl := Option.some.inj ho.symm
                  have d21 : V 21 = .pointer (some ⟨wr.heap.size, 0, none⟩) := hdep ⟨21, .data⟩ (by simp) rfl
                  have d13 : V 13 = .bool true := hdep ⟨13, .guard⟩ (by simp) rfl
                  have e0 : w9.cell? ⟨wr.heap.size, 0, none⟩ = some (.string x0) := (hJ.cell (p := ⟨wr.heap.size, 0, none⟩) HXL.out).trans (cell_blk' HXA.out rfl)
                  clear hdep ho hJ
                  try simp only [fill, slotOf, List.size_toArray, List.length_cons, List.length_nil, Nat.reduceAdd, List.getElem?_toArray, List.getElem?_cons_zero, List.getElem?_cons_succ, Option.bind_some, Act.put, List.setIfInBounds_toArray, List.set_cons_zero, List.set_cons_succ] at hK ⊢
                  rw [d21, d13] at hK ⊢
                  go_simp
                  exact hK (.string x0) _ HJ.out rfl (fun j y h => h) _ rfl
                · obtain rfl := Option.some.inj ho.symm
                  have d20 : V 20 = .string y0 := hdep ⟨20, .data⟩ (by simp) rfl
                  have d22 : V 22 = .string x0 := hdep ⟨22, .data⟩ (by simp) rfl
                  have d13 : V 13 = .bool true := hdep ⟨13, .guard⟩ (by simp) rfl
                  have hz9 : Op.bytesLess y0.toList x0.toList = true := HZ.out
                  clear hdep ho hJ
                  try simp only [fill, slotOf, List.size_toArray, List.length_cons, List.length_nil, Nat.reduceAdd, List.getElem?_toArray, List.getElem?_cons_zero, List.getElem?_cons_succ, Option.bind_some, Act.put, List.setIfInBounds_toArray, List.set_cons_zero, List.set_cons_succ] at hK ⊢
                  rw [d20, d22, d13] at hK ⊢
                  go_simp
                  exact hK (.bool false) _ HJ.out rfl (fun j y h => h) _ rfl
                · obtain rfl := Option.some.inj ho.symm
                  have d13 : V 13 = .bool true := hdep ⟨13, .data⟩ (by simp) rfl
                  have d23 : V 23 = .bool false := hdep ⟨23, .data⟩ (by simp) rfl
                  have d10 : V 10 = .bool false := hdep ⟨10, .guard⟩ (by simp) rfl
                  clear hdep ho hJ
                  try simp only [fill, slotOf, List.size_toArray, List.length_cons, List.length_nil, Nat.reduceAdd, List.getElem?_toArray, List.getElem?_cons_zero, List.getElem?_cons_succ, Option.bind_some, Act.put, List.setIfInBounds_toArray, List.set_cons_zero, List.set_cons_succ] at hK ⊢
                  rw [d13, d23, d10] at hK ⊢
                  go_simp
                  exact hK (.bool false) _ HJ.out rfl (fun j y h => h) _ rfl
                · obtain rfl := Option.some.inj ho.symm
                  have d10 : V 10 = .bool false := hdep ⟨10, .data⟩ (by simp) rfl
                  have d24 : V 24 = .bool false := hdep ⟨24, .data⟩ (by simp) rfl
                  clear hdep ho hJ
                  try simp only [fill, slotOf, List.size_toArray, List.length_cons, List.length_nil, Nat.reduceAdd, List.getElem?_toArray, List.getElem?_cons_zero, List.getElem?_cons_succ, Option.bind_some, Act.put, List.setIfInBounds_toArray, List.set_cons_zero, List.set_cons_succ] at hK ⊢
                  rw [d10, d24] at hK ⊢
                  go_simp
                  exact hK (.bool false) _ HJ.out rfl (fun j y h => h) _ rfl
              · intro V w9 hJ hall
                have dL : V 25 = .bool false := hall 25 (by decide)
                have HJ9 := Lib.hid hJ
                clear hall hJ
                simp only [fill, slotOf, List.size_toArray, List.length_cons, List.length_nil, Nat.reduceAdd, List.getElem?_toArray, List.getElem?_cons_zero, List.getElem?_cons_succ, Option.bind_some, Act.put, List.setIfInBounds_toArray, List.set_cons_zero, List.set_cons_succ]
                rw [dL]
                clear dL
                have HBZ := Lib.hid (HAL.out.trans (HJ9.out.mono HAL.out.size))
                go_wp2_with fail
                go_roundw
                case rel => exact ⟨j + 1 + 1, by omega, by go_num, HOK2, HBZ⟩
                case measure => simp [intOf]; omega
    · obtain rfl : en = k := by omega
      clear hkn
      have HRE0 := HOK
      have HMA := Lib.hid ((HB.out.block w.heap.size HM1L.out).trans HM1.out)
      have f5 : wr.cell? ⟨w.heap.size, 5, none⟩ = some (.slice oa on oc) := cell_blk' HMA.out rfl
      clear HOK HMA
      go_wp2_with fail
      clear f5
      go_loopw [5, 6, 73] (fun _ _ sI wr => ∃ k : Nat, k ≤ on ∧ sI = .int .i64 (k : Int) ∧ Hid (RisOk (isOwnB) (fun a b => cmp3 a.1 b.1) OwnS.z lo k) ∧ Hid (Below w1.heap.size w1 wr)) (fun _ _ sI _ => on - (intOf sI).toNat)
      case atStart => exact ⟨0, by omega, rfl, Lib.hid (fun j hj => by omega), HB⟩
      case round =>
        obtain ⟨k, hk, rfl, HOK, HB⟩ := hrel
        rename World => wr
        by_cases hkn : k < on
        · have hki : (k : Int) < (on : Int) := by omega
          obtain ⟨sb, so, rfl, hsl, hok, hsc9⟩ := (HVO.out.kept (HBM.out.trans (HB.out.mono HBM.out.size))).get hkn
          obtain ⟨s9, hse⟩ : ∃ s9, s9 = lo.getD k OwnS.z := ⟨_, rfl⟩
          obtain ⟨r9, hre⟩ : ∃ r9, r9 = lo.getD (k - 1) OwnS.z := ⟨_, rfl⟩
          rw [← hse] at hsc9 hok
          have HSE := Lib.hid hse
          have HRE := Lib.hid hre
          have HSY := Lib.hid (show ∀ j u, (OwnS.f r9)[j]? = some u → wr.cell? ⟨sb, so + (k - 1) * 3 + j, none⟩ = some u from by
            obtain ⟨sb2, so2, e2, _, _, hy⟩ := (HVO.out.kept (HBM.out.trans (HB.out.mono HBM.out.size))).get (show k - 1 < on by omega)
            cases e2
            rw [← hre] at hy
            exact hy)
          obtain ⟨x0, x1, x2⟩ := s9
          obtain ⟨y0, y1, y2⟩ := r9
          have d0 : wr.cell? ⟨sb, so + k * 3, none⟩ = some (.int .i64 x0) := hsc9 0 _ rfl
          have d1 : wr.cell? ⟨sb, so + k * 3 + 1, none⟩ = some (.int .i64 x1) := hsc9 1 _ rfl
          have d2 : wr.cell? ⟨sb, so + k * 3 + 2, none⟩ = some (.int .i64 x2) := hsc9 2 _ rfl
          have HXA := Lib.hid (heap_alloc_new wr (.cells #[.int .i64 x0, .int .i64 x1, .int .i64 x2] 45))
          have HXL := Lib.hid ((Array.getElem?_eq_some_iff.1 (heap_alloc_new wr (.cells #[.int .i64 x0, .int .i64 x1, .int .i64 x2] 45))).1)
          have HAL := Lib.hid (show Below w1.heap.size w1 (wr.alloc (.cells #[.int .i64 x0, .int .i64 x1, .int .i64 x2] 45)) from HB.out.alloc HB.out.size _)
          have HMA := Lib.hid ((HAL.out.block w.heap.size HM1L.out).trans HM1.out)
          have HML := Lib.hid (Nat.lt_of_lt_of_le HM1L.out HAL.out.size)
          obtain ⟨bx, hbx⟩ : ∃ bx, bx = isOwnB (x0, x1, x2) := ⟨_, rfl⟩
          have HBX := Lib.hid hbx
          have HSLA := Lib.hid (show sb < (wr.alloc (.cells #[.int .i64 x0, .int .i64 x1, .int .i64 x2] 45)).heap.size from Nat.lt_of_lt_of_le hsl ((Below.refl wr.heap.size wr).alloc (Nat.le_refl _) _).size)
          have HSYA := Lib.hid (show ∀ j u, (OwnS.f (y0, y1, y2))[j]? = some u → (wr.alloc (.cells #[.int .i64 x0, .int .i64 x1, .int .i64 x2] 45)).cell? ⟨sb, so + (k - 1) * 3 + j, none⟩ = some u from fun j u hu => (((Below.refl wr.heap.size wr).alloc (Nat.le_refl _) (.cells #[.int .i64 x0, .int .i64 x1, .int .i64 x2] 45)).cell (p := ⟨sb, so + (k - 1) * 3 + j, none⟩) hsl).trans (HSY.out j u hu))
          have HRX := Lib.hid (show ∀ W9, Below (wr.alloc (.cells #[.int .i64 x0, .int .i64 x1, .int .i64 x2] 45)).heap.size (wr.alloc (.cells #[.int .i64 x0, .int .i64 x1, .int .i64 x2] 45)) W9 → Calls Tryz.prog 33 #[.agg #[.int .i64 x0, .int .i64 x1, .int .i64 x2]] W9 fun e w' => e = .returned (.bool bx) ∧ Below W9.heap.size W9 w' from fun W9 hB => by
            rw [hbx]
            exact (by rw [← owner_same]; exact rowner_any x0 x1 x2 W9))
          clear hsc9 hse hre hsl hok HSY
          have HSL := HSLA
          have HSY := HSYA
          clear HSLA HSYA
          go_wp2_with fail
          cases bx with
          | false =>
            have HNO := Lib.hid (ManIs.no (pf := pfS) (fun h => (RisIs.no_not hkn (fun g => by have h1 := g.1; rw [← HSE.out, ← HBX.out] at h1; cases h1)) (h.2.2.2.2)) : ManIs pfS s d hz en le mn lm on lo (.returned (.bool false)))
            clear hbx
            refine wp_region_fill (by kernel_rfl) (by kernel_rfl) (by kernel_rfl) (Below (wr.alloc (.cells #[.int .i64 x0, .int .i64 x1, .int .i64 x2] 45)).heap.size (wr.alloc (.cells #[.int .i64 x0, .int .i64 x1, .int .i64 x2] 45))) (FV (fun j_9 => match j_9 with | 0 => some (.agg #[.int .i64 x0, .int .i64 x1, .int .i64 x2]) | 1 => some (.bool false) | 2 => some (.bool true) | 3 => some (.bool true) | 4 => some (undef) | 5 => some (undef) | 6 => some (undef) | 7 => some (undef) | 8 => some (undef) | 9 => some (undef) | 10 => some (undef) | 11 => some (undef) | 12 => some (undef) | 13 => some (undef) | 14 => some (undef) | 15 => some (undef) | 16 => some (undef) | 17 => some (undef) | 18 => some (.bool true) | _ => none) (fun _ _ => True)) (Below.refl _ _).drew ?_ ?_
            · intro i9 o ho V w9 K hJ hdep hK
              have HJ := Lib.hid hJ
              simp only [fill, slotOf, List.size_toArray, List.length_cons, List.length_nil, Nat.reduceAdd, List.getElem?_toArray, List.getElem?_cons_zero, List.getElem?_cons_succ, Option.bind_some, Act.put, List.setIfInBounds_toArray, List.set_cons_zero, List.set_cons_succ] at hK ⊢
              have hin : i9 < 19 := (Array.getElem?_eq_some_iff.1 ho).1
              have hcs : i9 = 0 ∨ i9 = 1 ∨ i9 = 2 ∨ i9 = 3 ∨ i9 = 4 ∨ i9 = 5 ∨ i9 = 6 ∨ i9 = 7 ∨ i9 = 8 ∨ i9 = 9 ∨ i9 = 10 ∨ i9 = 11 ∨ i9 = 12 ∨ i9 = 13 ∨ i9 = 14 ∨ i9 = 15 ∨ i9 = 16 ∨ i9 = 17 ∨ i9 = 18 := by omega
              clear hin
              rcases hcs with rfl | rfl | rfl | rfl | rfl | rfl | rfl | rfl | rfl | rfl | rfl | rfl | rfl | rfl | rfl | rfl | rfl | rfl | rfl
              · obtain rfl := Option.some.inj ho.symm
                have e0 : w9.cell? ⟨wr.heap.size, 0, none⟩ = some (.int .i64 x0) := (hJ.cell (p := ⟨wr.heap.size, 0, none⟩) HXL.out).trans (cell_blk' HXA.out rfl)
                have e1 : w9.cell? ⟨wr.heap.size, 1, none⟩ = some (.int .i64 x1) := (hJ.cell (p := ⟨wr.heap.size, 1, none⟩) HXL.out).trans (cell_blk' HXA.out rfl)
                have e2 : w9.cell? ⟨wr.heap.size, 2, none⟩ = some (.int .i64 x2) := (hJ.cell (p := ⟨wr.heap.size, 2, none⟩) HXL.out).trans (cell_blk' HXA.out rfl)
                clear hdep ho hJ
                try simp only [fill, slotOf, List.size_toArray, List.length_cons, List.length_nil, Nat.reduceAdd, List.getElem?_toArray, List.getElem?_cons_zero, List.getElem?_cons_succ, Option.bind_some, Act.put, List.setIfInBounds_toArray, List.set_cons_zero, List.set_cons_succ] at hK ⊢
                go_simp
                exact hK (.agg #[.int .i64 x0, .int .i64 x1, .int .i64 x2]) _ HJ.out rfl (fun j y h => h) _ rfl
              · obtain rfl := Option.some.inj ho.symm
                have d0 : V 0 = .agg #[.int .i64 x0, .int .i64 x1, .int .i64 x2] := hdep ⟨0, .data⟩ (by simp) rfl
                clear hdep ho hJ
                try simp only [fill, slotOf, List.size_toArray, List.length_cons, List.length_nil, Nat.reduceAdd, List.getElem?_toArray, List.getElem?_cons_zero, List.getElem?_cons_succ, Option.bind_some, Act.put, List.setIfInBounds_toArray, List.set_cons_zero, List.set_cons_succ] at hK ⊢
                rw [d0] at hK ⊢
                go_simp
                refine (HRX.out w9 HJ.out).mono ?_
                rintro e w8 ⟨rfl, hb8⟩
                exact hK (.bool false) _ (HJ.out.trans (hb8.mono HJ.out.size)) rfl (FV.mono ((fun _ _ _ => trivial) hb8)) _ rfl
              · obtain rfl := Option.some.inj ho.symm
                have d1 : V 1 = .bool false := hdep ⟨1, .data⟩ (by simp) rfl
                clear hdep ho hJ
                try simp only [fill, slotOf, List.size_toArray, List.length_cons, List.length_nil, Nat.reduceAdd, List.getElem?_toArray, List.getElem?_cons_zero, List.getElem?_cons_succ, Option.bind_some, Act.put, List.setIfInBounds_toArray, List.set_cons_zero, List.set_cons_succ] at hK ⊢
                rw [d1] at hK ⊢
                go_simp
                exact hK (.bool true) _ HJ.out rfl (fun j y h => h) _ rfl
              · obtain rfl := Option.some.inj ho.symm
                have d2 : V 2 = .bool true := hdep ⟨2, .data⟩ (by simp) rfl
                clear hdep ho hJ
                try simp only [fill, slotOf, List.size_toArray, List.length_cons, List.length_nil, Nat.reduceAdd, List.getElem?_toArray, List.getElem?_cons_zero, List.getElem?_cons_succ, Option.bind_some, Act.put, List.setIfInBounds_toArray, List.set_cons_zero, List.set_cons_succ] at hK ⊢
                rw [d2] at hK ⊢
                go_simp
                exact hK (.bool true) _ HJ.out rfl (fun j y h => h) _ rfl
              · obtain rfl := Option.some.inj ho.symm
                have d3 : V 3 = .bool true := hdep ⟨3, .guard⟩ (by simp) rfl
                clear hdep ho hJ
                try simp only [fill, slotOf, List.size_toArray, List.length_cons, List.length_nil, Nat.reduceAdd, List.getElem?_toArray, List.getElem?_cons_zero, List.getElem?_cons_succ, Option.bind_some, Act.put, List.setIfInBounds_toArray, List.set_cons_zero, List.set_cons_succ] at hK ⊢
                rw [d3] at hK ⊢
                go_simp
                exact hK (undef) _ HJ.out rfl (fun j y h => h) _ rfl
              · obtain rfl := Option.some.inj ho.symm
                have d3 : V 3 = .bool true := hdep ⟨3, .guard⟩ (by simp) rfl
                clear hdep ho hJ
                try simp only [fill, slotOf, List.size_toArray, List.length_cons, List.length_nil, Nat.reduceAdd, List.getElem?_toArray, List.getElem?_cons_zero, List.getElem?_cons_succ, Option.bind_some, Act.put, List.setIfInBounds_toArray, List.set_cons_zero, List.set_cons_succ] at hK ⊢
                rw [d3] at hK ⊢
                go_simp
                exact hK (undef) _ HJ.out rfl (fun j y h => h) _ rfl
              · obtain rfl := Option.some.inj ho.symm
                have d3 : V 3 = .bool true := hdep ⟨3, .guard⟩ (by simp) rfl
                clear hdep ho hJ
                try simp only [fill, slotOf, List.size_toArray, List.length_cons, List.length_nil, Nat.reduceAdd, List.getElem?_toArray, List.getElem?_cons_zero, List.getElem?_cons_succ, Option.bind_some, Act.put, List.setIfInBounds_toArray, List.set_cons_zero, List.set_cons_succ] at hK ⊢
                rw [d3] at hK ⊢
                go_simp
                exact hK (undef) _ HJ.out rfl (fun j y h => h) _ rfl
              · obtain rfl := Option.some.inj ho.symm
                have d6 : V 6 = undef := hdep ⟨6, .guard⟩ (by simp) rfl
                clear hdep ho hJ
                try simp only [fill, slotOf, List.size_toArray, List.length_cons, List.length_nil, Nat.reduceAdd, List.getElem?_toArray, List.getElem?_cons_zero, List.getElem?_cons_succ, Option.bind_some, Act.put, List.setIfInBounds_toArray, List.set_cons_zero, List.set_cons_succ] at hK ⊢
                rw [d6] at hK ⊢
                go_simp
                exact hK (undef) _ HJ.out rfl (fun j y h => h) _ rfl
              · obtain rfl := Option.some.inj ho.symm
                have d6 : V 6 = undef := hdep ⟨6, .guard⟩ (by simp) rfl
                clear hdep ho hJ
                try simp only [fill, slotOf, List.size_toArray, List.length_cons, List.length_nil, Nat.reduceAdd, List.getElem?_toArray, List.getElem?_cons_zero, List.getElem?_cons_succ, Option.bind_some, Act.put, List.setIfInBounds_toArray, List.set_cons_zero, List.set_cons_succ] at hK ⊢
                rw [d6] at hK ⊢
                go_simp
                exact hK (undef) _ HJ.out rfl (fun j y h => h) _ rfl
              · obtain rfl := Option.some.inj ho.symm
                have d6 : V 6 = undef := hdep ⟨6, .guard⟩ (by simp) rfl
                clear hdep ho hJ
                try simp only [fill, slotOf, List.size_toArray, List.length_cons, List.length_nil, Nat.reduceAdd, List.getElem?_toArray, List.getElem?_cons_zero, List.getElem?_cons_succ, Option.bind_some, Act.put, List.setIfInBounds_toArray, List.set_cons_zero, List.set_cons_succ] at hK ⊢
                rw [d6] at hK ⊢
                go_simp
                exact hK (undef) _ HJ.out rfl (fun j y h => h) _ rfl
              · obtain rfl := Option.some.inj ho.symm
                have d6 : V 6 = undef := hdep ⟨6, .guard⟩ (by simp) rfl
                clear hdep ho hJ
                try simp only [fill, slotOf, List.size_toArray, List.length_cons, List.length_nil, Nat.reduceAdd, List.getElem?_toArray, List.getElem?_cons_zero, List.getElem?_cons_succ, Option.bind_some, Act.put, List.setIfInBounds_toArray, List.set_cons_zero, List.set_cons_succ] at hK ⊢
                rw [d6] at hK ⊢
                go_simp
                exact hK (undef) _ HJ.out rfl (fun j y h => h) _ rfl
              · obtain rfl := Option.some.inj ho.symm
                have d6 : V 6 = undef := hdep ⟨6, .guard⟩ (by simp) rfl
                clear hdep ho hJ
                try simp only [fill, slotOf, List.size_toArray, List.length_cons, List.length_nil, Nat.reduceAdd, List.getElem?_toArray, List.getElem?_cons_zero, List.getElem?_cons_succ, Option.bind_some, Act.put, List.setIfInBounds_toArray, List.set_cons_zero, List.set_cons_succ] at hK ⊢
                rw [d6] at hK ⊢
                go_simp
                exact hK (undef) _ HJ.out rfl (fun j y h => h) _ rfl
              · obtain rfl := Option.some.inj ho.symm
                have d6 : V 6 = undef := hdep ⟨6, .guard⟩ (by simp) rfl
                clear hdep ho hJ
                try simp only [fill, slotOf, List.size_toArray, List.length_cons, List.length_nil, Nat.reduceAdd, List.getElem?_toArray, List.getElem?_cons_zero, List.getElem?_cons_succ, Option.bind_some, Act.put, List.setIfInBounds_toArray, List.set_cons_zero, List.set_cons_succ] at hK ⊢
                rw [d6] at hK ⊢
                go_simp
                exact hK (undef) _ HJ.out rfl (fun j y h => h) _ rfl
              · obtain rfl := Option.some.inj ho.symm
                have d6 : V 6 = undef := hdep ⟨6, .guard⟩ (by simp) rfl
                clear hdep ho hJ
                try simp only [fill, slotOf, List.size_toArray, List.length_cons, List.length_nil, Nat.reduceAdd, List.getElem?_toArray, List.getElem?_cons_zero, List.getElem?_cons_succ, Option.bind_some, Act.put, List.setIfInBounds_toArray, List.set_cons_zero, List.set_cons_succ] at hK ⊢
                rw [d6] at hK ⊢
                go_simp
                exact hK (undef) _ HJ.out rfl (fun j y h => h) _ rfl
              · obtain rfl := Option.some.inj ho.symm
                have d6 : V 6 = undef := hdep ⟨6, .guard⟩ (by simp) rfl
                clear hdep ho hJ
                try simp only [fill, slotOf, List.size_toArray, List.length_cons, List.length_nil, Nat.reduceAdd, List.getElem?_toArray, List.getElem?_cons_zero, List.getElem?_cons_succ, Option.bind_some, Act.put, List.setIfInBounds_toArray, List.set_cons_zero, List.set_cons_succ] at hK ⊢
                rw [d6] at hK ⊢
                go_simp
                exact hK (undef) _ HJ.out rfl (fun j y h => h) _ rfl
              · obtain rfl := Option.some.inj ho.symm
                have d6 : V 6 = undef := hdep ⟨6, .guard⟩ (by simp) rfl
                clear hdep ho hJ
                try simp only [fill, slotOf, List.size_toArray, List.length_cons, List.length_nil, Nat.reduceAdd, List.getElem?_toArray, List.getElem?_cons_zero, List.getElem?_cons_succ, Option.bind_some, Act.put, List.setIfInBounds_toArray, List.set_cons_zero, List.set_cons_succ] at hK ⊢
                rw [d6] at hK ⊢
                go_simp
                exact hK (undef) _ HJ.out rfl (fun j y h => h) _ rfl
              · obtain rfl := Option.some.inj ho.symm
                have d6 : V 6 = undef := hdep ⟨6, .guard⟩ (by simp) rfl
                clear hdep ho hJ
                try simp only [fill, slotOf, List.size_toArray, List.length_cons, List.length_nil, Nat.reduceAdd, List.getElem?_toArray, List.getElem?_cons_zero, List.getElem?_cons_succ, Option.bind_some, Act.put, List.setIfInBounds_toArray, List.set_cons_zero, List.set_cons_succ] at hK ⊢
                rw [d6] at hK ⊢
                go_simp
                exact hK (undef) _ HJ.out rfl (fun j y h => h) _ rfl
              · obtain rfl := Option.some.inj ho.symm
                have d3 : V 3 = .bool true := hdep ⟨3, .guard⟩ (by simp) rfl
                clear hdep ho hJ
                try simp only [fill, slotOf, List.size_toArray, List.length_cons, List.length_nil, Nat.reduceAdd, List.getElem?_toArray, List.getElem?_cons_zero, List.getElem?_cons_succ, Option.bind_some, Act.put, List.setIfInBounds_toArray, List.set_cons_zero, List.set_cons_succ] at hK ⊢
                rw [d3] at hK ⊢
                go_simp
                exact hK (undef) _ HJ.out rfl (fun j y h => h) _ rfl
              · obtain rfl := Option.some.inj ho.symm
                have d3 : V 3 = .bool true := hdep ⟨3, .data⟩ (by simp) rfl
                clear hdep ho hJ
                try simp only [fill, slotOf, List.size_toArray, List.length_cons, List.length_nil, Nat.reduceAdd, List.getElem?_toArray, List.getElem?_cons_zero, List.getElem?_cons_succ, Option.bind_some, Act.put, List.setIfInBounds_toArray, List.set_cons_zero, List.set_cons_succ] at hK ⊢
                rw [d3] at hK ⊢
                go_simp
                exact hK (.bool true) _ HJ.out rfl (fun j y h => h) _ rfl
            · intro V w9 hJ hall
              have dL : V 18 = .bool true := hall 18 (by decide)
              have HJ9 := Lib.hid hJ
              clear hall hJ
              simp only [fill, slotOf, List.size_toArray, List.length_cons, List.length_nil, Nat.reduceAdd, List.getElem?_toArray, List.getElem?_cons_zero, List.getElem?_cons_succ, Option.bind_some, Act.put, List.setIfInBounds_toArray, List.set_cons_zero, List.set_cons_succ]
              rw [dL]
              clear dL
              have HBZ := Lib.hid (HBM.out.trans ((HAL.out.trans (HJ9.out.mono HAL.out.size)).mono HBM.out.size))
              go_wp2_with fail
              go_ret
              exact ⟨HNO.out, HBZ.out⟩
          | true =>
            by_cases hk0 : k = 0
            · subst hk0
              have HOK2 := Lib.hid (HOK.out.succ (by rw [← HSE.out]; exact HBX.out.symm) (fun g => absurd g (Nat.lt_irrefl 0)))
              clear hbx
              refine wp_region_fill (by kernel_rfl) (by kernel_rfl) (by kernel_rfl) (Below (wr.alloc (.cells #[.int .i64 x0, .int .i64 x1, .int .i64 x2] 45)).heap.size (wr.alloc (.cells #[.int .i64 x0, .int .i64 x1, .int .i64 x2] 45))) (FV (fun j_9 => match j_9 with | 0 => some (.agg #[.int .i64 x0, .int .i64 x1, .int .i64 x2]) | 1 => some (.bool true) | 2 => some (.bool false) | 3 => some (.bool false) | 4 => some (.int .i64 0) | 5 => some (.bool false) | 6 => some (.bool false) | 7 => some (undef) | 8 => some (undef) | 9 => some (undef) | 10 => some (undef) | 11 => some (undef) | 12 => some (undef) | 13 => some (undef) | 14 => some (undef) | 15 => some (undef) | 16 => some (undef) | 17 => some (.bool false) | 18 => some (.bool false) | _ => none) (fun _ _ => True)) (Below.refl _ _).drew ?_ ?_
              · intro i9 o ho V w9 K hJ hdep hK
                have HJ := Lib.hid hJ
                simp only [fill, slotOf, List.size_toArray, List.length_cons, List.length_nil, Nat.reduceAdd, List.getElem?_toArray, List.getElem?_cons_zero, List.getElem?_cons_succ, Option.bind_some, Act.put, List.setIfInBounds_toArray, List.set_cons_zero, List.set_cons_succ] at hK ⊢
                have hin : i9 < 19 := (Array.getElem?_eq_some_iff.1 ho).1
                have hcs : i9 = 0 ∨ i9 = 1 ∨ i9 = 2 ∨ i9 = 3 ∨ i9 = 4 ∨ i9 = 5 ∨ i9 = 6 ∨ i9 = 7 ∨ i9 = 8 ∨ i9 = 9 ∨ i9 = 10 ∨ i9 = 11 ∨ i9 = 12 ∨ i9 = 13 ∨ i9 = 14 ∨ i9 = 15 ∨ i9 = 16 ∨ i9 = 17 ∨ i9 = 18 := by omega
                clear hin
                rcases hcs with rfl | rfl | rfl | rfl | rfl | rfl | rfl | rfl | rfl | rfl | rfl | rfl | rfl | rfl | rfl | rfl | rfl | rfl | rfl
                · obtain rfl := Option.some.inj ho.symm
                  have e0 : w9.cell? ⟨wr.heap.size, 0, none⟩ = some (.int .i64 x0) := (hJ.cell (p := ⟨wr.heap.size, 0, none⟩) HXL.out).trans (cell_blk' HXA.out rfl)
                  have e1 : w9.cell? ⟨wr.heap.size, 1, none⟩ = some (.int .i64 x1) := (hJ.cell (p := ⟨wr.heap.size, 1, none⟩) HXL.out).trans (cell_blk' HXA.out rfl)
                  have e2 : w9.cell? ⟨wr.heap.size, 2, none⟩ = some (.int .i64 x2) := (hJ.cell (p := ⟨wr.heap.size, 2, none⟩) HXL.out).trans (cell_blk' HXA.out rfl)
                  clear hdep ho hJ
                  try simp only [fill, slotOf, List.size_toArray, List.length_cons, List.length_nil, Nat.reduceAdd, List.getElem?_toArray, List.getElem?_cons_zero, List.getElem?_cons_succ, Option.bind_some, Act.put, List.setIfInBounds_toArray, List.set_cons_zero, List.set_cons_succ] at hK ⊢
                  go_simp
                  exact hK (.agg #[.int .i64 x0, .int .i64 x1, .int .i64 x2]) _ HJ.out rfl (fun j y h => h) _ rfl
                · obtain rfl := Option.some.inj ho.symm
                  have d0 : V 0 = .agg #[.int .i64 x0, .int .i64 x1, .int .i64 x2] := hdep ⟨0, .data⟩ (by simp) rfl
                  clear hdep ho hJ
                  try simp only [fill, slotOf, List.size_toArray, List.length_cons, List.length_nil, Nat.reduceAdd, List.getElem?_toArray, List.getElem?_cons_zero, List.getElem?_cons_succ, Option.bind_some, Act.put, List.setIfInBounds_toArray, List.set_cons_zero, List.set_cons_succ] at hK ⊢
                  rw [d0] at hK ⊢
                  go_simp
                  refine (HRX.out w9 HJ.out).mono ?_
                  rintro e w8 ⟨rfl, hb8⟩
                  exact hK (.bool true) _ (HJ.out.trans (hb8.mono HJ.out.size)) rfl (FV.mono ((fun _ _ _ => trivial) hb8)) _ rfl
                · obtain rfl := Option.some.inj ho.symm
                  have d1 : V 1 = .bool true := hdep ⟨1, .data⟩ (by simp) rfl
                  clear hdep ho hJ
                  try simp only [fill, slotOf, List.size_toArray, List.length_cons, List.length_nil, Nat.reduceAdd, List.getElem?_toArray, List.getElem?_cons_zero, List.getElem?_cons_succ, Option.bind_some, Act.put, List.setIfInBounds_toArray, List.set_cons_zero, List.set_cons_succ] at hK ⊢
                  rw [d1] at hK ⊢
                  go_simp
                  exact hK (.bool false) _ HJ.out rfl (fun j y h => h) _ rfl
                · obtain rfl := Option.some.inj ho.symm
                  have d2 : V 2 = .bool false := hdep ⟨2, .data⟩ (by simp) rfl
                  clear hdep ho hJ
                  try simp only [fill, slotOf, List.size_toArray, List.length_cons, List.length_nil, Nat.reduceAdd, List.getElem?_toArray, List.getElem?_cons_zero, List.getElem?_cons_succ, Option.bind_some, Act.put, List.setIfInBounds_toArray, List.set_cons_zero, List.set_cons_succ] at hK ⊢
                  rw [d2] at hK ⊢
                  go_simp
                  exact hK (.bool false) _ HJ.out rfl (fun j y h => h) _ rfl
                · obtain rfl := Option.some.inj ho.symm
                  have d3 : V 3 = .bool false := hdep ⟨3, .guard⟩ (by simp) rfl
                  clear hdep ho hJ
                  try simp only [fill, slotOf, List.size_toArray, List.length_cons, List.length_nil, Nat.reduceAdd, List.getElem?_toArray, List.getElem?_cons_zero, List.getElem?_cons_succ, Option.bind_some, Act.put, List.setIfInBounds_toArray, List.set_cons_zero, List.set_cons_succ] at hK ⊢
                  rw [d3] at hK ⊢
                  go_simp
                  exact hK (.int .i64 0) _ HJ.out rfl (fun j y h => h) _ rfl
                · obtain rfl := Option.some.inj ho.symm
                  have d4 : V 4 = .int .i64 0 := hdep ⟨4, .data⟩ (by simp) rfl
                  have d3 : V 3 = .bool false := hdep ⟨3, .guard⟩ (by simp) rfl
                  clear hdep ho hJ
                  try simp only [fill, slotOf, List.size_toArray, List.length_cons, List.length_nil, Nat.reduceAdd, List.getElem?_toArray, List.getElem?_cons_zero, List.getElem?_cons_succ, Option.bind_some, Act.put, List.setIfInBounds_toArray, List.set_cons_zero, List.set_cons_succ] at hK ⊢
                  rw [d4, d3] at hK ⊢
                  go_simp
                  exact hK (.bool false) _ HJ.out rfl (fun j y h => h) _ rfl
                · obtain rfl := Option.some.inj ho.symm
                  have d5 : V 5 = .bool false := hdep ⟨5, .data⟩ (by simp) rfl
                  have d3 : V 3 = .bool false := hdep ⟨3, .guard⟩ (by simp) rfl
                  clear hdep ho hJ
                  try simp only [fill, slotOf, List.size_toArray, List.length_cons, List.length_nil, Nat.reduceAdd, List.getElem?_toArray, List.getElem?_cons_zero, List.getElem?_cons_succ, Option.bind_some, Act.put, List.setIfInBounds_toArray, List.set_cons_zero, List.set_cons_succ] at hK ⊢
                  rw [d5, d3] at hK ⊢
                  go_simp
                  exact hK (.bool false) _ HJ.out rfl (fun j y h => h) _ rfl
                · obtain rfl := Option.some.inj ho.symm
                  have d6 : V 6 = .bool false := hdep ⟨6, .guard⟩ (by simp) rfl
                  clear hdep ho hJ
                  try simp only [fill, slotOf, List.size_toArray, List.length_cons, List.length_nil, Nat.reduceAdd, List.getElem?_toArray, List.getElem?_cons_zero, List.getElem?_cons_succ, Option.bind_some, Act.put, List.setIfInBounds_toArray, List.set_cons_zero, List.set_cons_succ] at hK ⊢
                  rw [d6] at hK ⊢
                  go_simp
                  exact hK (undef) _ HJ.out rfl (fun j y h => h) _ rfl
                · obtain rfl := Option.some.inj ho.symm
                  have d6 : V 6 = .bool false := hdep ⟨6, .guard⟩ (by simp) rfl
                  clear hdep ho hJ
                  try simp only [fill, slotOf, List.size_toArray, List.length_cons, List.length_nil, Nat.reduceAdd, List.getElem?_toArray, List.getElem?_cons_zero, List.getElem?_cons_succ, Option.bind_some, Act.put, List.setIfInBounds_toArray, List.set_cons_zero, List.set_cons_succ] at hK ⊢
                  rw [d6] at hK ⊢
                  go_simp
                  exact hK (undef) _ HJ.out rfl (fun j y h => h) _ rfl
                · obtain rfl := Option.some.inj ho.symm
                  have d6 : V 6 = .bool false := hdep ⟨6, .guard⟩ (by simp) rfl
                  clear hdep ho hJ
                  try simp only [fill, slotOf, List.size_toArray, List.length_cons, List.length_nil, Nat.reduceAdd, List.getElem?_toArray, List.getElem?_cons_zero, List.getElem?_cons_succ, Option.bind_some, Act.put, List.setIfInBounds_toArray, List.set_cons_zero, List.set_cons_succ] at hK ⊢
                  rw [d6] at hK ⊢
                  go_simp
                  exact hK (undef) _ HJ.out rfl (fun j y h => h) _ rfl
                · obtain rfl := Option.some.inj ho.symm
                  have d6 : V 6 = .bool false := hdep ⟨6, .guard⟩ (by simp) rfl
                  clear hdep ho hJ
                  try simp only [fill, slotOf, List.size_toArray, List.length_cons, List.length_nil, Nat.reduceAdd, List.getElem?_toArray, List.getElem?_cons_zero, List.getElem?_cons_succ, Option.bind_some, Act.put, List.setIfInBounds_toArray, List.set_cons_zero, List.set_cons_succ] at hK ⊢
                  rw [d6] at hK ⊢
                  go_simp
                  exact hK (undef) _ HJ.out rfl (fun j y h => h) _ rfl
                · obtain rfl := Option.some.inj ho.symm
                  have d6 : V 6 = .bool false := hdep ⟨6, .guard⟩ (by simp) rfl
                  clear hdep ho hJ
                  try simp only [fill, slotOf, List.size_toArray, List.length_cons, List.length_nil, Nat.reduceAdd, List.getElem?_toArray, List.getElem?_cons_zero, List.getElem?_cons_succ, Option.bind_some, Act.put, List.setIfInBounds_toArray, List.set_cons_zero, List.set_cons_succ] at hK ⊢
                  rw [d6] at hK ⊢
                  go_simp
                  exact hK (undef) _ HJ.out rfl (fun j y h => h) _ rfl
                · obtain rfl := Option.some.inj ho.symm
                  have d6 : V 6 = .bool false := hdep ⟨6, .guard⟩ (by simp) rfl
                  clear hdep ho hJ
                  try simp only [fill, slotOf, List.size_toArray, List.length_cons, List.length_nil, Nat.reduceAdd, List.getElem?_toArray, List.getElem?_cons_zero, List.getElem?_cons_succ, Option.bind_some, Act.put, List.setIfInBounds_toArray, List.set_cons_zero, List.set_cons_succ] at hK ⊢
                  rw [d6] at hK ⊢
                  go_simp
                  exact hK (undef) _ HJ.out rfl (fun j y h => h) _ rfl
                · obtain rfl := Option.some.inj ho.symm
                  have d6 : V 6 = .bool false := hdep ⟨6, .guard⟩ (by simp) rfl
                  clear hdep ho hJ
                  try simp only [fill, slotOf, List.size_toArray, List.length_cons, List.length_nil, Nat.reduceAdd, List.getElem?_toArray, List.getElem?_cons_zero, List.getElem?_cons_succ, Option.bind_some, Act.put, List.setIfInBounds_toArray, List.set_cons_zero, List.set_cons_succ] at hK ⊢
                  rw [d6] at hK ⊢
                  go_simp
                  exact hK (undef) _ HJ.out rfl (fun j y h => h) _ rfl
                · obtain rfl := Option.some.inj ho.symm
                  have d6 : V 6 = .bool false := hdep ⟨6, .guard⟩ (by simp) rfl
                  clear hdep ho hJ
                  try simp only [fill, slotOf, List.size_toArray, List.length_cons, List.length_nil, Nat.reduceAdd, List.getElem?_toArray, List.getElem?_cons_zero, List.getElem?_cons_succ, Option.bind_some, Act.put, List.setIfInBounds_toArray, List.set_cons_zero, List.set_cons_succ] at hK ⊢
                  rw [d6] at hK ⊢
                  go_simp
                  exact hK (undef) _ HJ.out rfl (fun j y h => h) _ rfl
                · obtain rfl := Option.some.inj ho.symm
                  have d6 : V 6 = .bool false := hdep ⟨6, .guard⟩ (by simp) rfl
                  clear hdep ho hJ
                  try simp only [fill, slotOf, List.size_toArray, List.length_cons, List.length_nil, Nat.reduceAdd, List.getElem?_toArray, List.getElem?_cons_zero, List.getElem?_cons_succ, Option.bind_some, Act.put, List.setIfInBounds_toArray, List.set_cons_zero, List.set_cons_succ] at hK ⊢
                  rw [d6] at hK ⊢
                  go_simp
                  exact hK (undef) _ HJ.out rfl (fun j y h => h) _ rfl
                · obtain rfl := Option.some.inj ho.symm
                  have d6 : V 6 = .bool false := hdep ⟨6, .guard⟩ (by simp) rfl
                  clear hdep ho hJ
                  try simp only [fill, slotOf, List.size_toArray, List.length_cons, List.length_nil, Nat.reduceAdd, List.getElem?_toArray, List.getElem?_cons_zero, List.getElem?_cons_succ, Option.bind_some, Act.put, List.setIfInBounds_toArray, List.set_cons_zero, List.set_cons_succ] at hK ⊢
                  rw [d6] at hK ⊢
                  go_simp
                  exact hK (undef) _ HJ.out rfl (fun j y h => h) _ rfl
                · obtain rfl := Option.some.inj ho.symm
                  have d6 : V 6 = .bool false := hdep ⟨6, .data⟩ (by simp) rfl
                  have d3 : V 3 = .bool false := hdep ⟨3, .guard⟩ (by simp) rfl
                  clear hdep ho hJ
                  try simp only [fill, slotOf, List.size_toArray, List.length_cons, List.length_nil, Nat.reduceAdd, List.getElem?_toArray, List.getElem?_cons_zero, List.getElem?_cons_succ, Option.bind_some, Act.put, List.setIfInBounds_toArray, List.set_cons_zero, List.set_cons_succ] at hK ⊢
                  rw [d6, d3] at hK ⊢
                  go_simp
                  exact hK (.bool false) _ HJ.out rfl (fun j y h => h) _ rfl
                · obtain rfl := Option.some.inj ho.symm
                  have d3 : V 3 = .bool false := hdep ⟨3, .data⟩ (by simp) rfl
                  have d17 : V 17 = .bool false := hdep ⟨17, .data⟩ (by simp) rfl
                  clear hdep ho hJ
                  try simp only [fill, slotOf, List.size_toArray, List.length_cons, List.length_nil, Nat.reduceAdd, List.getElem?_toArray, List.getElem?_cons_zero, List.getElem?_cons_succ, Option.bind_some, Act.put, List.setIfInBounds_toArray, List.set_cons_zero, List.set_cons_succ] at hK ⊢
                  rw [d3, d17] at hK ⊢
                  go_simp
                  exact hK (.bool false) _ HJ.out rfl (fun j y h => h) _ rfl
              · intro V w9 hJ hall
                have dL : V 18 = .bool false := hall 18 (by decide)
                have HJ9 := Lib.hid hJ
                clear hall hJ
                simp only [fill, slotOf, List.size_toArray, List.length_cons, List.length_nil, Nat.reduceAdd, List.getElem?_toArray, List.getElem?_cons_zero, List.getElem?_cons_succ, Option.bind_some, Act.put, List.setIfInBounds_toArray, List.set_cons_zero, List.set_cons_succ]
                rw [dL]
                clear dL
                have HBZ := Lib.hid (HAL.out.trans (HJ9.out.mono HAL.out.size))
                go_wp2_with fail
                go_roundw
                case rel => exact ⟨1, by omega, rfl, HOK2, HBZ⟩
                case measure => simp [intOf]; try omega
            · obtain ⟨j, rfl⟩ : ∃ j, k = j + 1 := ⟨k - 1, by omega⟩
              have HSYJ := Lib.hid HSY.out
              simp only [Nat.add_sub_cancel] at HSYJ
              clear HSY
              have HSY := HSYJ
              clear HSYJ
              by_cases hge : y0 ≥ x0
              · have HZ := Lib.hid (show decide (y0 ≥ x0) = true from decide_eq_true hge)
                have HNO := Lib.hid (ManIs.no (pf := pfS) (fun h => (RisIs.no_not hkn (fun g => by
                  have h1 := g.2 (by omega)
                  rw [← HSE.out, ← HRE.out] at h1
                  have h2 := (cmp3_lt9 y0 x0).1 h1
                  omega)) h.2.2.2.2) : ManIs pfS s d hz en le mn lm on lo (.returned (.bool false)))
                clear hbx hge
                refine wp_region_fill (by kernel_rfl) (by kernel_rfl) (by kernel_rfl) (Below (wr.alloc (.cells #[.int .i64 x0, .int .i64 x1, .int .i64 x2] 45)).heap.size (wr.alloc (.cells #[.int .i64 x0, .int .i64 x1, .int .i64 x2] 45))) (FV (fun j_9 => match j_9 with | 0 => some (.agg #[.int .i64 x0, .int .i64 x1, .int .i64 x2]) | 1 => some (.bool true) | 2 => some (.bool false) | 3 => some (.bool false) | 4 => some (.int .i64 ((j : Int) + 1)) | 5 => some (.bool true) | 6 => some (.bool true) | 7 => some (.pointer (some ⟨w.heap.size, 5, none⟩)) | 8 => some (.slice (some ⟨sb, so, none⟩) on oc) | 9 => some (.int .i64 ((j : Int) + 1)) | 10 => some (.int .i64 (j : Int)) | 11 => some (.pointer (some ⟨sb, so + j * 3, none⟩)) | 12 => some (.pointer (some ⟨sb, so + j * 3, none⟩)) | 13 => some (.int .i64 y0) | 14 => some (.pointer (some ⟨wr.heap.size, 0, none⟩)) | 15 => some (.int .i64 x0) | 16 => some (.bool true) | 17 => some (.bool true) | 18 => some (.bool true) | _ => none) (fun _ _ => True)) (Below.refl _ _).drew ?_ ?_
                · intro i9 o ho V w9 K hJ hdep hK
                  have HJ := Lib.hid hJ
                  simp only [fill, slotOf, List.size_toArray, List.length_cons, List.length_nil, Nat.reduceAdd, List.getElem?_toArray, List.getElem?_cons_zero, List.getElem?_cons_succ, Option.bind_some, Act.put, List.setIfInBounds_toArray, List.set_cons_zero, List.set_cons_succ] at hK ⊢
                  have hin : i9 < 19 := (Array.getElem?_eq_some_iff.1 ho).1
                  have hcs : i9 = 0 ∨ i9 = 1 ∨ i9 = 2 ∨ i9 = 3 ∨ i9 = 4 ∨ i9 = 5 ∨ i9 = 6 ∨ i9 = 7 ∨ i9 = 8 ∨ i9 = 9 ∨ i9 = 10 ∨ i9 = 11 ∨ i9 = 12 ∨ i9 = 13 ∨ i9 = 14 ∨ i9 = 15 ∨ i9 = 16 ∨ i9 = 17 ∨ i9 = 18 := by omega
                  clear hin
                  rcases hcs with rfl | rfl | rfl | rfl | rfl | rfl | rfl | rfl | rfl | rfl | rfl | rfl | rfl | rfl | rfl | rfl | rfl | rfl | rfl
                  · obtain rfl := Option.some.inj ho.symm
                    have e0 : w9.cell? ⟨wr.heap.size, 0, none⟩ = some (.int .i64 x0) := (hJ.cell (p := ⟨wr.heap.size, 0, none⟩) HXL.out).trans (cell_blk' HXA.out rfl)
                    have e1 : w9.cell? ⟨wr.heap.size, 1, none⟩ = some (.int .i64 x1) := (hJ.cell (p := ⟨wr.heap.size, 1, none⟩) HXL.out).trans (cell_blk' HXA.out rfl)
                    have e2 : w9.cell? ⟨wr.heap.size, 2, none⟩ = some (.int .i64 x2) := (hJ.cell (p := ⟨wr.heap.size, 2, none⟩) HXL.out).trans (cell_blk' HXA.out rfl)
                    clear hdep ho hJ
                    try simp only [fill, slotOf, List.size_toArray, List.length_cons, List.length_nil, Nat.reduceAdd, List.getElem?_toArray, List.getElem?_cons_zero, List.getElem?_cons_succ, Option.bind_some, Act.put, List.setIfInBounds_toArray, List.set_cons_zero, List.set_cons_succ] at hK ⊢
                    go_simp
                    exact hK (.agg #[.int .i64 x0, .int .i64 x1, .int .i64 x2]) _ HJ.out rfl (fun j y h => h) _ rfl
                  · obtain rfl := Option.some.inj ho.symm
                    have d0 : V 0 = .agg #[.int .i64 x0, .int .i64 x1, .int .i64 x2] := hdep ⟨0, .data⟩ (by simp) rfl
                    clear hdep ho hJ
                    try simp only [fill, slotOf, List.size_toArray, List.length_cons, List.length_nil, Nat.reduceAdd, List.getElem?_toArray, List.getElem?_cons_zero, List.getElem?_cons_succ, Option.bind_some, Act.put, List.setIfInBounds_toArray, List.set_cons_zero, List.set_cons_succ] at hK ⊢
                    rw [d0] at hK ⊢
                    go_simp
                    refine (HRX.out w9 HJ.out).mono ?_
                    rintro e w8 ⟨rfl, hb8⟩
                    exact hK (.bool true) _ (HJ.out.trans (hb8.mono HJ.out.size)) rfl (FV.mono ((fun _ _ _ => trivial) hb8)) _ rfl
                  · obtain rfl := Option.some.inj ho.symm
                    have d1 : V 1 = .bool true := hdep ⟨1, .data⟩ (by simp) rfl
                    clear hdep ho hJ
                    try simp only [fill, slotOf, List.size_toArray, List.length_cons, List.length_nil, Nat.reduceAdd, List.getElem?_toArray, List.getElem?_cons_zero, List.getElem?_cons_succ, Option.bind_some, Act.put, List.setIfInBounds_toArray, List.set_cons_zero, List.set_cons_succ] at hK ⊢
                    rw [d1] at hK ⊢
                    go_simp
                    exact hK (.bool false) _ HJ.out rfl (fun j y h => h) _ rfl
                  · obtain rfl := Option.some.inj ho.symm
                    have d2 : V 2 = .bool false := hdep ⟨2, .data⟩ (by simp) rfl
                    clear hdep ho hJ
                    try simp only [fill, slotOf, List.size_toArray, List.length_cons, List.length_nil, Nat.reduceAdd, List.getElem?_toArray, List.getElem?_cons_zero, List.getElem?_cons_succ, Option.bind_some, Act.put, List.setIfInBounds_toArray, List.set_cons_zero, List.set_cons_succ] at hK ⊢
                    rw [d2] at hK ⊢
                    go_simp
                    exact hK (.bool false) _ HJ.out rfl (fun j y h => h) _ rfl
                  · obtain rfl := Option.some.inj ho.symm
                    have d3 : V 3 = .bool false := hdep ⟨3, .guard⟩ (by simp) rfl
                    clear hdep ho hJ
                    try simp only [fill, slotOf, List.size_toArray, List.length_cons, List.length_nil, Nat.reduceAdd, List.getElem?_toArray, List.getElem?_cons_zero, List.getElem?_cons_succ, Option.bind_some, Act.put, List.setIfInBounds_toArray, List.set_cons_zero, List.set_cons_succ] at hK ⊢
                    rw [d3] at hK ⊢
                    go_simp
                    exact hK (.int .i64 ((j : Int) + 1)) _ HJ.out rfl (fun j y h => h) _ rfl
                  · obtain rfl := Option.some.inj ho.symm
                    have d4 : V 4 = .int .i64 ((j : Int) + 1) := hdep ⟨4, .data⟩ (by simp) rfl
                    have d3 : V 3 = .bool false := hdep ⟨3, .guard⟩ (by simp) rfl
                    have hk9 : decide ((j : Int) + 1 > 0) = true := decide_eq_true (by omega)
                    clear hdep ho hJ
                    try simp only [fill, slotOf, List.size_toArray, List.length_cons, List.length_nil, Nat.reduceAdd, List.getElem?_toArray, List.getElem?_cons_zero, List.getElem?_cons_succ, Option.bind_some, Act.put, List.setIfInBounds_toArray, List.set_cons_zero, List.set_cons_succ] at hK ⊢
                    rw [d4, d3] at hK ⊢
                    go_simp
                    exact hK (.bool true) _ HJ.out rfl (fun j y h => h) _ rfl
                  · obtain rfl := Option.some.inj ho.symm
                    have d5 : V 5 = .bool true := hdep ⟨5, .data⟩ (by simp) rfl
                    have d3 : V 3 = .bool false := hdep ⟨3, .guard⟩ (by simp) rfl
                    clear hdep ho hJ
                    try simp only [fill, slotOf, List.size_toArray, List.length_cons, List.length_nil, Nat.reduceAdd, List.getElem?_toArray, List.getElem?_cons_zero, List.getElem?_cons_succ, Option.bind_some, Act.put, List.setIfInBounds_toArray, List.set_cons_zero, List.set_cons_succ] at hK ⊢
                    rw [d5, d3] at hK ⊢
                    go_simp
                    exact hK (.bool true) _ HJ.out rfl (fun j y h => h) _ rfl
                  · obtain rfl := Option.some.inj ho.symm
                    have d6 : V 6 = .bool true := hdep ⟨6, .guard⟩ (by simp) rfl
                    clear hdep ho hJ
                    try simp only [fill, slotOf, List.size_toArray, List.length_cons, List.length_nil, Nat.reduceAdd, List.getElem?_toArray, List.getElem?_cons_zero, List.getElem?_cons_succ, Option.bind_some, Act.put, List.setIfInBounds_toArray, List.set_cons_zero, List.set_cons_succ] at hK ⊢
                    rw [d6] at hK ⊢
                    go_simp
                    exact hK (.pointer (some ⟨w.heap.size, 5, none⟩)) _ HJ.out rfl (fun j y h => h) _ rfl
                  · obtain rfl := Option.some.inj ho.symm
                    have d7 : V 7 = .pointer (some ⟨w.heap.size, 5, none⟩) := hdep ⟨7, .data⟩ (by simp) rfl
                    have d6 : V 6 = .bool true := hdep ⟨6, .guard⟩ (by simp) rfl
                    have m5 : w9.cell? ⟨w.heap.size, 5, none⟩ = some (.slice (some ⟨sb, so, none⟩) on oc) := (hJ.cell (p := ⟨w.heap.size, 5, none⟩) HML.out).trans (cell_blk' HMA.out rfl)
                    clear hdep ho hJ
                    try simp only [fill, slotOf, List.size_toArray, List.length_cons, List.length_nil, Nat.reduceAdd, List.getElem?_toArray, List.getElem?_cons_zero, List.getElem?_cons_succ, Option.bind_some, Act.put, List.setIfInBounds_toArray, List.set_cons_zero, List.set_cons_succ] at hK ⊢
                    rw [d7, d6] at hK ⊢
                    go_simp
                    exact hK (.slice (some ⟨sb, so, none⟩) on oc) _ HJ.out rfl (fun j y h => h) _ rfl
                  · obtain rfl := Option.some.inj ho.symm
                    have d6 : V 6 = .bool true := hdep ⟨6, .guard⟩ (by simp) rfl
                    clear hdep ho hJ
                    try simp only [fill, slotOf, List.size_toArray, List.length_cons, List.length_nil, Nat.reduceAdd, List.getElem?_toArray, List.getElem?_cons_zero, List.getElem?_cons_succ, Option.bind_some, Act.put, List.setIfInBounds_toArray, List.set_cons_zero, List.set_cons_succ] at hK ⊢
                    rw [d6] at hK ⊢
                    go_simp
                    exact hK (.int .i64 ((j : Int) + 1)) _ HJ.out rfl (fun j y h => h) _ rfl
                  · obtain rfl := Option.some.inj ho.symm
                    have d9 : V 9 = .int .i64 ((j : Int) + 1) := hdep ⟨9, .data⟩ (by simp) rfl
                    have d6 : V 6 = .bool true := hdep ⟨6, .guard⟩ (by simp) rfl
                    have hw1 : IntKind.i64.wrap (j : Int) = (j : Int) := IntWalk.i64_in _ (by omega)
                    have hw2 : IntKind.i64.wrap ((j : Int) + 1 - 1) = (j : Int) := by rw [Int.add_sub_cancel]; exact hw1
                    clear hdep ho hJ
                    try simp only [fill, slotOf, List.size_toArray, List.length_cons, List.length_nil, Nat.reduceAdd, List.getElem?_toArray, List.getElem?_cons_zero, List.getElem?_cons_succ, Option.bind_some, Act.put, List.setIfInBounds_toArray, List.set_cons_zero, List.set_cons_succ] at hK ⊢
                    rw [d9, d6] at hK ⊢
                    go_simp
                    exact hK (.int .i64 (j : Int)) _ HJ.out rfl (fun j y h => h) _ rfl
                  · obtain rfl := Option.some.inj ho.symm
                    have d8 : V 8 = .slice (some ⟨sb, so, none⟩) on oc := hdep ⟨8, .data⟩ (by simp) rfl
                    have d10 : V 10 = .int .i64 (j : Int) := hdep ⟨10, .data⟩ (by simp) rfl
                    have d6 : V 6 = .bool true := hdep ⟨6, .guard⟩ (by simp) rfl
                    have hjn : j < on := by omega
                    have hjn2 : (j : Int) < (on : Int) := by omega
                    clear hdep ho hJ
                    try simp only [fill, slotOf, List.size_toArray, List.length_cons, List.length_nil, Nat.reduceAdd, List.getElem?_toArray, List.getElem?_cons_zero, List.getElem?_cons_succ, Option.bind_some, Act.put, List.setIfInBounds_toArray, List.set_cons_zero, List.set_cons_succ] at hK ⊢
                    rw [d8, d10, d6] at hK ⊢
                    go_simp
                    exact hK (.pointer (some ⟨sb, so + j * 3, none⟩)) _ HJ.out rfl (fun j y h => h) _ rfl
                  · obtain rfl := Option.some.inj ho.symm
                    have d11 : V 11 = .pointer (some ⟨sb, so + j * 3, none⟩) := hdep ⟨11, .data⟩ (by simp) rfl
                    have d6 : V 6 = .bool true := hdep ⟨6, .guard⟩ (by simp) rfl
                    clear hdep ho hJ
                    try simp only [fill, slotOf, List.size_toArray, List.length_cons, List.length_nil, Nat.reduceAdd, List.getElem?_toArray, List.getElem?_cons_zero, List.getElem?_cons_succ, Option.bind_some, Act.put, List.setIfInBounds_toArray, List.set_cons_zero, List.set_cons_succ] at hK ⊢
                    rw [d11, d6] at hK ⊢
                    go_simp
                    exact hK (.pointer (some ⟨sb, so + j * 3, none⟩)) _ HJ.out rfl (fun j y h => h) _ rfl
                  · obtain rfl := Option.some.inj ho.symm
                    have d12 : V 12 = .pointer (some ⟨sb, so + j * 3, none⟩) := hdep ⟨12, .data⟩ (by simp) rfl
                    have d6 : V 6 = .bool true := hdep ⟨6, .guard⟩ (by simp) rfl
                    have u0 : w9.cell? ⟨sb, so + j * 3, none⟩ = some (.int .i64 y0) := (hJ.cell (p := ⟨sb, so + j * 3 + 0, none⟩) HSL.out).trans (HSY.out 0 _ rfl)
                    clear hdep ho hJ
                    try simp only [fill, slotOf, List.size_toArray, List.length_cons, List.length_nil, Nat.reduceAdd, List.getElem?_toArray, List.getElem?_cons_zero, List.getElem?_cons_succ, Option.bind_some, Act.put, List.setIfInBounds_toArray, List.set_cons_zero, List.set_cons_succ] at hK ⊢
                    rw [d12, d6] at hK ⊢
                    go_simp
                    exact hK (.int .i64 y0) _ HJ.out rfl (fun j y h => h) _ rfl
                  · obtain rfl := Option.some.inj ho.symm
                    have d6 : V 6 = .bool true := hdep ⟨6, .guard⟩ (by simp) rfl
                    clear hdep ho hJ
                    try simp only [fill, slotOf, List.size_toArray, List.length_cons, List.length_nil, Nat.reduceAdd, List.getElem?_toArray, List.getElem?_cons_zero, List.getElem?_cons_succ, Option.bind_some, Act.put, List.setIfInBounds_toArray, List.set_cons_zero, List.set_cons_succ] at hK ⊢
                    rw [d6] at hK ⊢
                    go_simp
                    exact hK (.pointer (some ⟨wr.heap.size, 0, none⟩)) _ HJ.out rfl (fun j y h => h) _ rfl
                  · obtain rfl := Option.some.inj ho.symm
                    have d14 : V 14 = .pointer (some ⟨wr.heap.size, 0, none⟩) := hdep ⟨14, .data⟩ (by simp) rfl
                    have d6 : V 6 = .bool true := hdep ⟨6, .guard⟩ (by simp) rfl
                    have e0 : w9.cell? ⟨wr.heap.size, 0, none⟩ = some (.int .i64 x0) := (hJ.cell (p := ⟨wr.heap.size, 0, none⟩) HXL.out).trans (cell_blk' HXA.out rfl)
                    clear hdep ho hJ
                    try simp only [fill, slotOf, List.size_toArray, List.length_cons, List.length_nil, Nat.reduceAdd, List.getElem?_toArray, List.getElem?_cons_zero, List.getElem?_cons_succ, Option.bind_some, Act.put, List.setIfInBounds_toArray, List.set_cons_zero, List.set_cons_succ] at hK ⊢
                    rw [d14, d6] at hK ⊢
                    go_simp
                    exact hK (.int .i64 x0) _ HJ.out rfl (fun j y h => h) _ rfl
                  · obtain rfl := Option.some.inj ho.symm
                    have d13 : V 13 = .int .i64 y0 := hdep ⟨13, .data⟩ (by simp) rfl
                    have d15 : V 15 = .int .i64 x0 := hdep ⟨15, .data⟩ (by simp) rfl
                    have d6 : V 6 = .bool true := hdep ⟨6, .guard⟩ (by simp) rfl
                    have hz9 : decide (y0 ≥ x0) = true := HZ.out
                    clear hdep ho hJ
                    try simp only [fill, slotOf, List.size_toArray, List.length_cons, List.length_nil, Nat.reduceAdd, List.getElem?_toArray, List.getElem?_cons_zero, List.getElem?_cons_succ, Option.bind_some, Act.put, List.setIfInBounds_toArray, List.set_cons_zero, List.set_cons_succ] at hK ⊢
                    rw [d13, d15, d6] at hK ⊢
                    go_simp
                    exact hK (.bool true) _ HJ.out rfl (fun j y h => h) _ rfl
                  · obtain rfl := Option.some.inj ho.symm
                    have d6 : V 6 = .bool true := hdep ⟨6, .data⟩ (by simp) rfl
                    have d16 : V 16 = .bool true := hdep ⟨16, .data⟩ (by simp) rfl
                    have d3 : V 3 = .bool false := hdep ⟨3, .guard⟩ (by simp) rfl
                    clear hdep ho hJ
                    try simp only [fill, slotOf, List.size_toArray, List.length_cons, List.length_nil, Nat.reduceAdd, List.getElem?_toArray, List.getElem?_cons_zero, List.getElem?_cons_succ, Option.bind_some, Act.put, List.setIfInBounds_toArray, List.set_cons_zero, List.set_cons_succ] at hK ⊢
                    rw [d6, d16, d3] at hK ⊢
                    go_simp
                    exact hK (.bool true) _ HJ.out rfl (fun j y h => h) _ rfl
                  · obtain rfl := Option.some.inj ho.symm
                    have d3 : V 3 = .bool false := hdep ⟨3, .data⟩ (by simp) rfl
                    have d17 : V 17 = .bool true := hdep ⟨17, .data⟩ (by simp) rfl
                    clear hdep ho hJ
                    try simp only [fill, slotOf, List.size_toArray, List.length_cons, List.length_nil, Nat.reduceAdd, List.getElem?_toArray, List.getElem?_cons_zero, List.getElem?_cons_succ, Option.bind_some, Act.put, List.setIfInBounds_toArray, List.set_cons_zero, List.set_cons_succ] at hK ⊢
                    rw [d3, d17] at hK ⊢
                    go_simp
                    exact hK (.bool true) _ HJ.out rfl (fun j y h => h) _ rfl
                · intro V w9 hJ hall
                  have dL : V 18 = .bool true := hall 18 (by decide)
                  have HJ9 := Lib.hid hJ
                  clear hall hJ
                  simp only [fill, slotOf, List.size_toArray, List.length_cons, List.length_nil, Nat.reduceAdd, List.getElem?_toArray, List.getElem?_cons_zero, List.getElem?_cons_succ, Option.bind_some, Act.put, List.setIfInBounds_toArray, List.set_cons_zero, List.set_cons_succ]
                  rw [dL]
                  clear dL
                  have HBZ := Lib.hid (HBM.out.trans ((HAL.out.trans (HJ9.out.mono HAL.out.size)).mono HBM.out.size))
                  go_wp2_with fail
                  go_ret
                  exact ⟨HNO.out, HBZ.out⟩
              · have HZ := Lib.hid (show decide (y0 ≥ x0) = false from decide_eq_false hge)
                have HOK2 := Lib.hid (HOK.out.succ (by rw [← HSE.out]; exact HBX.out.symm) (fun _ => by rw [← HSE.out, ← HRE.out]; exact (cmp3_lt9 y0 x0).2 (by omega)))
                clear hbx hge
                refine wp_region_fill (by kernel_rfl) (by kernel_rfl) (by kernel_rfl) (Below (wr.alloc (.cells #[.int .i64 x0, .int .i64 x1, .int .i64 x2] 45)).heap.size (wr.alloc (.cells #[.int .i64 x0, .int .i64 x1, .int .i64 x2] 45))) (FV (fun j_9 => match j_9 with | 0 => some (.agg #[.int .i64 x0, .int .i64 x1, .int .i64 x2]) | 1 => some (.bool true) | 2 => some (.bool false) | 3 => some (.bool false) | 4 => some (.int .i64 ((j : Int) + 1)) | 5 => some (.bool true) | 6 => some (.bool true) | 7 => some (.pointer (some ⟨w.heap.size, 5, none⟩)) | 8 => some (.slice (some ⟨sb, so, none⟩) on oc) | 9 => some (.int .i64 ((j : Int) + 1)) | 10 => some (.int .i64 (j : Int)) | 11 => some (.pointer (some ⟨sb, so + j * 3, none⟩)) | 12 => some (.pointer (some ⟨sb, so + j * 3, none⟩)) | 13 => some (.int .i64 y0) | 14 => some (.pointer (some ⟨wr.heap.size, 0, none⟩)) | 15 => some (.int .i64 x0) | 16 => some (.bool false) | 17 => some (.bool false) | 18 => some (.bool false) | _ => none) (fun _ _ => True)) (Below.refl _ _).drew ?_ ?_
                · intro i9 o ho V w9 K hJ hdep hK
                  have HJ := Lib.hid hJ
                  simp only [fill, slotOf, List.size_toArray, List.length_cons, List.length_nil, Nat.reduceAdd, List.getElem?_toArray, List.getElem?_cons_zero, List.getElem?_cons_succ, Option.bind_some, Act.put, List.setIfInBounds_toArray, List.set_cons_zero, List.set_cons_succ] at hK ⊢
                  have hin : i9 < 19 := (Array.getElem?_eq_some_iff.1 ho).1
                  have hcs : i9 = 0 ∨ i9 = 1 ∨ i9 = 2 ∨ i9 = 3 ∨ i9 = 4 ∨ i9 = 5 ∨ i9 = 6 ∨ i9 = 7 ∨ i9 = 8 ∨ i9 = 9 ∨ i9 = 10 ∨ i9 = 11 ∨ i9 = 12 ∨ i9 = 13 ∨ i9 = 14 ∨ i9 = 15 ∨ i9 = 16 ∨ i9 = 17 ∨ i9 = 18 := by omega
                  clear hin
                  rcases hcs with rfl | rfl | rfl | rfl | rfl | rfl | rfl | rfl | rfl | rfl | rfl | rfl | rfl | rfl | rfl | rfl | rfl | rfl | rfl
                  · obtain rfl := Option.some.inj ho.symm
                    have e0 : w9.cell? ⟨wr.heap.size, 0, none⟩ = some (.int .i64 x0) := (hJ.cell (p := ⟨wr.heap.size, 0, none⟩) HXL.out).trans (cell_blk' HXA.out rfl)
                    have e1 : w9.cell? ⟨wr.heap.size, 1, none⟩ = some (.int .i64 x1) := (hJ.cell (p := ⟨wr.heap.size, 1, none⟩) HXL.out).trans (cell_blk' HXA.out rfl)
                    have e2 : w9.cell? ⟨wr.heap.size, 2, none⟩ = some (.int .i64 x2) := (hJ.cell (p := ⟨wr.heap.size, 2, none⟩) HXL.out).trans (cell_blk' HXA.out rfl)
                    clear hdep ho hJ
                    try simp only [fill, slotOf, List.size_toArray, List.length_cons, List.length_nil, Nat.reduceAdd, List.getElem?_toArray, List.getElem?_cons_zero, List.getElem?_cons_succ, Option.bind_some, Act.put, List.setIfInBounds_toArray, List.set_cons_zero, List.set_cons_succ] at hK ⊢
                    go_simp
                    exact hK (.agg #[.int .i64 x0, .int .i64 x1, .int .i64 x2]) _ HJ.out rfl (fun j y h => h) _ rfl
                  · obtain rfl := Option.some.inj ho.symm
                    have d0 : V 0 = .agg #[.int .i64 x0, .int .i64 x1, .int .i64 x2] := hdep ⟨0, .data⟩ (by simp) rfl
                    clear hdep ho hJ
                    try simp only [fill, slotOf, List.size_toArray, List.length_cons, List.length_nil, Nat.reduceAdd, List.getElem?_toArray, List.getElem?_cons_zero, List.getElem?_cons_succ, Option.bind_some, Act.put, List.setIfInBounds_toArray, List.set_cons_zero, List.set_cons_succ] at hK ⊢
                    rw [d0] at hK ⊢
                    go_simp
                    refine (HRX.out w9 HJ.out).mono ?_
                    rintro e w8 ⟨rfl, hb8⟩
                    exact hK (.bool true) _ (HJ.out.trans (hb8.mono HJ.out.size)) rfl (FV.mono ((fun _ _ _ => trivial) hb8)) _ rfl
                  · obtain rfl := Option.some.inj ho.symm
                    have d1 : V 1 = .bool true := hdep ⟨1, .data⟩ (by simp) rfl
                    clear hdep ho hJ
                    try simp only [fill, slotOf, List.size_toArray, List.length_cons, List.length_nil, Nat.reduceAdd, List.getElem?_toArray, List.getElem?_cons_zero, List.getElem?_cons_succ, Option.bind_some, Act.put, List.setIfInBounds_toArray, List.set_cons_zero, List.set_cons_succ] at hK ⊢
                    rw [d1] at hK ⊢
                    go_simp
                    exact hK (.bool false) _ HJ.out rfl (fun j y h => h) _ rfl
                  · obtain rfl := Option.some.inj ho.symm
                    have d2 : V 2 = .bool false := hdep ⟨2, .data⟩ (by simp) rfl
                    clear hdep ho hJ
                    try simp only [fill, slotOf, List.size_toArray, List.length_cons, List.length_nil, Nat.reduceAdd, List.getElem?_toArray, List.getElem?_cons_zero, List.getElem?_cons_succ, Option.bind_some, Act.put, List.setIfInBounds_toArray, List.set_cons_zero, List.set_cons_succ] at hK ⊢
                    rw [d2] at hK ⊢
                    go_simp
                    exact hK (.bool false) _ HJ.out rfl (fun j y h => h) _ rfl
                  · obtain rfl := Option.some.inj ho.symm
                    have d3 : V 3 = .bool false := hdep ⟨3, .guard⟩ (by simp) rfl
                    clear hdep ho hJ
                    try simp only [fill, slotOf, List.size_toArray, List.length_cons, List.length_nil, Nat.reduceAdd, List.getElem?_toArray, List.getElem?_cons_zero, List.getElem?_cons_succ, Option.bind_some, Act.put, List.setIfInBounds_toArray, List.set_cons_zero, List.set_cons_succ] at hK ⊢
                    rw [d3] at hK ⊢
                    go_simp
                    exact hK (.int .i64 ((j : Int) + 1)) _ HJ.out rfl (fun j y h => h) _ rfl
                  · obtain rfl := Option.some.inj ho.symm
                    have d4 : V 4 = .int .i64 ((j : Int) + 1) := hdep ⟨4, .data⟩ (by simp) rfl
                    have d3 : V 3 = .bool false := hdep ⟨3, .guard⟩ (by simp) rfl
                    have hk9 : decide ((j : Int) + 1 > 0) = true := decide_eq_true (by omega)
                    clear hdep ho hJ
                    try simp only [fill, slotOf, List.size_toArray, List.length_cons, List.length_nil, Nat.reduceAdd, List.getElem?_toArray, List.getElem?_cons_zero, List.getElem?_cons_succ, Option.bind_some, Act.put, List.setIfInBounds_toArray, List.set_cons_zero, List.set_cons_succ] at hK ⊢
                    rw [d4, d3] at hK ⊢
                    go_simp
                    exact hK (.bool true) _ HJ.out rfl (fun j y h => h) _ rfl
                  · obtain rfl := Option.some.inj ho.symm
                    have d5 : V 5 = .bool true := hdep ⟨5, .data⟩ (by simp) rfl
                    have d3 : V 3 = .bool false := hdep ⟨3, .guard⟩ (by simp) rfl
                    clear hdep ho hJ
                    try simp only [fill, slotOf, List.size_toArray, List.length_cons, List.length_nil, Nat.reduceAdd, List.getElem?_toArray, List.getElem?_cons_zero, List.getElem?_cons_succ, Option.bind_some, Act.put, List.setIfInBounds_toArray, List.set_cons_zero, List.set_cons_succ] at hK ⊢
                    rw [d5, d3] at hK ⊢
                    go_simp
                    exact hK (.bool true) _ HJ.out rfl (fun j y h => h) _ rfl
                  · obtain rfl := Option.some.inj ho.symm
                    have d6 : V 6 = .bool true := hdep ⟨6, .guard⟩ (by simp) rfl
                    clear hdep ho hJ
                    try simp only [fill, slotOf, List.size_toArray, List.length_cons, List.length_nil, Nat.reduceAdd, List.getElem?_toArray, List.getElem?_cons_zero, List.getElem?_cons_succ, Option.bind_some, Act.put, List.setIfInBounds_toArray, List.set_cons_zero, List.set_cons_succ] at hK ⊢
                    rw [d6] at hK ⊢
                    go_simp
                    exact hK (.pointer (some ⟨w.heap.size, 5, none⟩)) _ HJ.out rfl (fun j y h => h) _ rfl
                  · obtain rfl := Option.some.inj ho.symm
                    have d7 : V 7 = .pointer (some ⟨w.heap.size, 5, none⟩) := hdep ⟨7, .data⟩ (by simp) rfl
                    have d6 : V 6 = .bool true := hdep ⟨6, .guard⟩ (by simp) rfl
                    have m5 : w9.cell? ⟨w.heap.size, 5, none⟩ = some (.slice (some ⟨sb, so, none⟩) on oc) := (hJ.cell (p := ⟨w.heap.size, 5, none⟩) HML.out).trans (cell_blk' HMA.out rfl)
                    clear hdep ho hJ
                    try simp only [fill, slotOf, List.size_toArray, List.length_cons, List.length_nil, Nat.reduceAdd, List.getElem?_toArray, List.getElem?_cons_zero, List.getElem?_cons_succ, Option.bind_some, Act.put, List.setIfInBounds_toArray, List.set_cons_zero, List.set_cons_succ] at hK ⊢
                    rw [d7, d6] at hK ⊢
                    go_simp
                    exact hK (.slice (some ⟨sb, so, none⟩) on oc) _ HJ.out rfl (fun j y h => h) _ rfl
                  · obtain rfl := Option.some.inj ho.symm
                    have d6 : V 6 = .bool true := hdep ⟨6, .guard⟩ (by simp) rfl
                    clear hdep ho hJ
                    try simp only [fill, slotOf, List.size_toArray, List.length_cons, List.length_nil, Nat.reduceAdd, List.getElem?_toArray, List.getElem?_cons_zero, List.getElem?_cons_succ, Option.bind_some, Act.put, List.setIfInBounds_toArray, List.set_cons_zero, List.set_cons_succ] at hK ⊢
                    rw [d6] at hK ⊢
                    go_simp
                    exact hK (.int .i64 ((j : Int) + 1)) _ HJ.out rfl (fun j y h => h) _ rfl
                  · obtain rfl := Option.some.inj ho.symm
                    have d9 : V 9 = .int .i64 ((j : Int) + 1) := hdep ⟨9, .data⟩ (by simp) rfl
                    have d6 : V 6 = .bool true := hdep ⟨6, .guard⟩ (by simp) rfl
                    have hw1 : IntKind.i64.wrap (j : Int) = (j : Int) := IntWalk.i64_in _ (by omega)
                    have hw2 : IntKind.i64.wrap ((j : Int) + 1 - 1) = (j : Int) := by rw [Int.add_sub_cancel]; exact hw1
                    clear hdep ho hJ
                    try simp only [fill, slotOf, List.size_toArray, List.length_cons, List.length_nil, Nat.reduceAdd, List.getElem?_toArray, List.getElem?_cons_zero, List.getElem?_cons_succ, Option.bind_some, Act.put, List.setIfInBounds_toArray, List.set_cons_zero, List.set_cons_succ] at hK ⊢
                    rw [d9, d6] at hK ⊢
                    go_simp
                    exact hK (.int .i64 (j : Int)) _ HJ.out rfl (fun j y h => h) _ rfl
                  · obtain rfl := Option.some.inj ho.symm
                    have d8 : V 8 = .slice (some ⟨sb, so, none⟩) on oc := hdep ⟨8, .data⟩ (by simp) rfl
                    have d10 : V 10 = .int .i64 (j : Int) := hdep ⟨10, .data⟩ (by simp) rfl
                    have d6 : V 6 = .bool true := hdep ⟨6, .guard⟩ (by simp) rfl
                    have hjn : j < on := by omega
                    have hjn2 : (j : Int) < (on : Int) := by omega
                    clear hdep ho hJ
                    try simp only [fill, slotOf, List.size_toArray, List.length_cons, List.length_nil, Nat.reduceAdd, List.getElem?_toArray, List.getElem?_cons_zero, List.getElem?_cons_succ, Option.bind_some, Act.put, List.setIfInBounds_toArray, List.set_cons_zero, List.set_cons_succ] at hK ⊢
                    rw [d8, d10, d6] at hK ⊢
                    go_simp
                    exact hK (.pointer (some ⟨sb, so + j * 3, none⟩)) _ HJ.out rfl (fun j y h => h) _ rfl
                  · obtain rfl := Option.some.inj ho.symm
                    have d11 : V 11 = .pointer (some ⟨sb, so + j * 3, none⟩) := hdep ⟨11, .data⟩ (by simp) rfl
                    have d6 : V 6 = .bool true := hdep ⟨6, .guard⟩ (by simp) rfl
                    clear hdep ho hJ
                    try simp only [fill, slotOf, List.size_toArray, List.length_cons, List.length_nil, Nat.reduceAdd, List.getElem?_toArray, List.getElem?_cons_zero, List.getElem?_cons_succ, Option.bind_some, Act.put, List.setIfInBounds_toArray, List.set_cons_zero, List.set_cons_succ] at hK ⊢
                    rw [d11, d6] at hK ⊢
                    go_simp
                    exact hK (.pointer (some ⟨sb, so + j * 3, none⟩)) _ HJ.out rfl (fun j y h => h) _ rfl
                  · obtain rfl := Option.some.inj ho.symm
                    have d12 : V 12 = .pointer (some ⟨sb, so + j * 3, none⟩) := hdep ⟨12, .data⟩ (by simp) rfl
                    have d6 : V 6 = .bool true := hdep ⟨6, .guard⟩ (by simp) rfl
                    have u0 : w9.cell? ⟨sb, so + j * 3, none⟩ = some (.int .i64 y0) := (hJ.cell (p := ⟨sb, so + j * 3 + 0, none⟩) HSL.out).trans (HSY.out 0 _ rfl)
                    clear hdep ho hJ
                    try simp only [fill, slotOf, List.size_toArray, List.length_cons, List.length_nil, Nat.reduceAdd, List.getElem?_toArray, List.getElem?_cons_zero, List.getElem?_cons_succ, Option.bind_some, Act.put, List.setIfInBounds_toArray, List.set_cons_zero, List.set_cons_succ] at hK ⊢
                    rw [d12, d6] at hK ⊢
                    go_simp
                    exact hK (.int .i64 y0) _ HJ.out rfl (fun j y h => h) _ rfl
                  · obtain rfl := Option.some.inj ho.symm
                    have d6 : V 6 = .bool true := hdep ⟨6, .guard⟩ (by simp) rfl
                    clear hdep ho hJ
                    try simp only [fill, slotOf, List.size_toArray, List.length_cons, List.length_nil, Nat.reduceAdd, List.getElem?_toArray, List.getElem?_cons_zero, List.getElem?_cons_succ, Option.bind_some, Act.put, List.setIfInBounds_toArray, List.set_cons_zero, List.set_cons_succ] at hK ⊢
                    rw [d6] at hK ⊢
                    go_simp
                    exact hK (.pointer (some ⟨wr.heap.size, 0, none⟩)) _ HJ.out rfl (fun j y h => h) _ rfl
                  · obtain rfl := Option.some.inj ho.symm
                    have d14 : V 14 = .pointer (some ⟨wr.heap.size, 0, none⟩) := hdep ⟨14, .data⟩ (by simp) rfl
                    have d6 : V 6 = .bool true := hdep ⟨6, .guard⟩ (by simp) rfl
                    have e0 : w9.cell? ⟨wr.heap.size, 0, none⟩ = some (.int .i64 x0) := (hJ.cell (p := ⟨wr.heap.size, 0, none⟩) HXL.out).trans (cell_blk' HXA.out rfl)
                    clear hdep ho hJ
                    try simp only [fill, slotOf, List.size_toArray, List.length_cons, List.length_nil, Nat.reduceAdd, List.getElem?_toArray, List.getElem?_cons_zero, List.getElem?_cons_succ, Option.bind_some, Act.put, List.setIfInBounds_toArray, List.set_cons_zero, List.set_cons_succ] at hK ⊢
                    rw [d14, d6] at hK ⊢
                    go_simp
                    exact hK (.int .i64 x0) _ HJ.out rfl (fun j y h => h) _ rfl
                  · obtain rfl := Option.some.inj ho.symm
                    have d13 : V 13 = .int .i64 y0 := hdep ⟨13, .data⟩ (by simp) rfl
                    have d15 : V 15 = .int .i64 x0 := hdep ⟨15, .data⟩ (by simp) rfl
                    have d6 : V 6 = .bool true := hdep ⟨6, .guard⟩ (by simp) rfl
                    have hz9 : decide (y0 ≥ x0) = false := HZ.out
                    clear hdep ho hJ
                    try simp only [fill, slotOf, List.size_toArray, List.length_cons, List.length_nil, Nat.reduceAdd, List.getElem?_toArray, List.getElem?_cons_zero, List.getElem?_cons_succ, Option.bind_some, Act.put, List.setIfInBounds_toArray, List.set_cons_zero, List.set_cons_succ] at hK ⊢
                    rw [d13, d15, d6] at hK ⊢
                    go_simp
                    exact hK (.bool false) _ HJ.out rfl (fun j y h => h) _ rfl
                  · obtain rfl := Option.some.inj ho.symm
                    have d6 : V 6 = .bool true := hdep ⟨6, .data⟩ (by simp) rfl
                    have d16 : V 16 = .bool false := hdep ⟨16, .data⟩ (by simp) rfl
                    have d3 : V 3 = .bool false := hdep ⟨3, .guard⟩ (by simp) rfl
                    clear hdep ho hJ
                    try simp only [fill, slotOf, List.size_toArray, List.length_cons, List.length_nil, Nat.reduceAdd, List.getElem?_toArray, List.getElem?_cons_zero, List.getElem?_cons_succ, Option.bind_some, Act.put, List.setIfInBounds_toArray, List.set_cons_zero, List.set_cons_succ] at hK ⊢
                    rw [d6, d16, d3] at hK ⊢
                    go_simp
                    exact hK (.bool false) _ HJ.out rfl (fun j y h => h) _ rfl
                  · obtain rfl := Option.some.inj ho.symm
                    have d3 : V 3 = .bool false := hdep ⟨3, .data⟩ (by simp) rfl
                    have d17 : V 17 = .bool false := hdep ⟨17, .data⟩ (by simp) rfl
                    clear hdep ho hJ
                    try simp only [fill, slotOf, List.size_toArray, List.length_cons, List.length_nil, Nat.reduceAdd, List.getElem?_toArray, List.getElem?_cons_zero, List.getElem?_cons_succ, Option.bind_some, Act.put, List.setIfInBounds_toArray, List.set_cons_zero, List.set_cons_succ] at hK ⊢
                    rw [d3, d17] at hK ⊢
                    go_simp
                    exact hK (.bool false) _ HJ.out rfl (fun j y h => h) _ rfl
                · intro V w9 hJ hall
                  have dL : V 18 = .bool false := hall 18 (by decide)
                  have HJ9 := Lib.hid hJ
                  clear hall hJ
                  simp only [fill, slotOf, List.size_toArray, List.length_cons, List.length_nil, Nat.reduceAdd, List.getElem?_toArray, List.getElem?_cons_zero, List.getElem?_cons_succ, Option.bind_some, Act.put, List.setIfInBounds_toArray, List.set_cons_zero, List.set_cons_succ]
                  rw [dL]
                  clear dL
                  have HBZ := Lib.hid (HAL.out.trans (HJ9.out.mono HAL.out.size))
                  go_wp2_with fail
                  go_roundw
                  case rel => exact ⟨j + 1 + 1, by omega, by go_num, HOK2, HBZ⟩
                  case measure => simp [intOf]; omega
        · obtain rfl : on = k := by omega
          clear hkn
          have HY := Lib.hid (ManIs.yes (pf := pfS) ⟨HI0.out.1, HI0.out.2, HRE0.out, HRM.out, HOK.out⟩ : ManIs pfS s d hz en le mn lm on lo (.returned (.bool true)))
          have HBZ := Lib.hid (HBM.out.trans (HB.out.mono HBM.out.size))
          go_wp2_with fail
          go_ret
          exact ⟨HY.out, HBZ.out⟩
end Go.Proofs.YtbdgcfimbblncaaGreatDoor
end PkMR12_0
