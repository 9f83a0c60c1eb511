/- Texts put together by packtpl2.py: MfRE, MfK, MfN, MfP, CrcPlain, CrcKit, CrcSum, CrcSeal, MfE2, LabNm, LabAt, LabRight, Apnd, LabQuote. -/
import Derived.Test.YtbdgcfimbblncaaGreatDoorPkMB1
import Derived.Test.YtbdgcfimbblncaaGreatDoorPkMB3
import Derived.Test.YtbdgcfimbblncaaGreatDoorPkMB4
import Derived.WalkKit
import Derived.Laws.BitsAllLaws
import Derived.OwnWalk
import Derived.Lib.SlBytesConst
import Derived.Deep.Slices
import Derived.Deep.Fields
import Derived.ChangeSame
import Derived.Laws.Cover1
import Derived.Maps.AppendAt
import Derived.Deep.RegionLaw
import Derived.BigRegion
section PkMB5_0
/- Manifests: entries that rise; of any. Written by genmfr.py. -/
namespace Go.Proofs.YtbdgcfimbblncaaGreatDoor
open Go.RowKit LabPlain
set_option linter.unusedVariables false

set_option maxRecDepth 100000 in
set_option maxHeartbeats 8000000 in
theorem rising_anyE {w : World} {a : Option Addr} {n c : Nat} {l : List EntV} (h : VecAt EntS w a n c l) {mb : Nat} (p : EntV → Bool)
    (hR : ∀ (W : World) (z : EntV), z ∈ l → Below w.heap.size w W → EntS.ok W z → Calls Tryz.prog 35 #[.agg #[.string z.key, .int .i64 z.win, .string z.part, .int .i64 z.fst, .int .i64 z.lst, .int .i64 z.rows, .int .i64 z.size, .int .u32 z.sum, .int .i64 z.born], .pointer (some ⟨mb, 0, none⟩)] W fun e w' => e = .returned (.bool (p z)) ∧ Below W.heap.size W w') :
    Calls Tryz.prog 37 #[.slice a n c, .func (.func 38) #[] #[], .func (.func 35) #[] #[.pointer (some ⟨mb, 0, none⟩)]] w fun e w' => RisIs p (fun a b => cmpS a.key b.key) EntS.z l n e ∧ Below w.heap.size w w' := by
  have hcap := h.cap
  have hcm := h.capm
  have HH := Lib.hid h
  have HL := Lib.hid h.len
  have HR := Lib.hid hR
  clear h hR
  go_enter Tryz.func37, Tryz.ntmps37
  go_wp2_with fail
  go_loopw [7, 8, 11] (fun _ _ s11 wr => ∃ k : Nat, k ≤ n ∧ s11 = .int .i64 (k : Int) ∧ Hid (RisOk p (fun a b => cmpS a.key b.key) EntS.z l k) ∧ Hid (Below w.heap.size w wr)) (fun _ _ s11 _ => n - (intOf s11).toNat)
  case atStart => exact ⟨0, by omega, rfl, Lib.hid (fun j hj => by omega), Lib.hid (Below.refl _ _)⟩
  case round =>
    obtain ⟨k, hk, rfl, HOK, HB⟩ := hrel
    rename World => wr
    by_cases hkn : k < n
    · have hki : (k : Int) < (n : Int) := by omega
      obtain ⟨sb, so, rfl, hsl, hok, hsc9⟩ := (HH.out.kept HB.out).get hkn
      obtain ⟨s, hse⟩ : ∃ s, s = l.getD k EntS.z := ⟨_, rfl⟩
      obtain ⟨r, hre⟩ : ∃ r, r = l.getD (k - 1) EntS.z := ⟨_, rfl⟩
      rw [← hse] at hsc9 hok
      have HSE := Lib.hid hse
      have HRE := Lib.hid hre
      have HSL := Lib.hid hsl
      have HSY := Lib.hid (show ∀ j u, (EntS.f r)[j]? = some u → wr.cell? ⟨sb, so + (k - 1) * 9 + j, none⟩ = some u from by
        obtain ⟨sb2, so2, e2, _, _, hy⟩ := (HH.out.kept HB.out).get (show k - 1 < n by omega)
        cases e2
        rw [← hre] at hy
        exact hy)
      obtain ⟨x0, x1, x2, x3, x4, x5, x6, x7, x8⟩ := s
      obtain ⟨y0, y1, y2, y3, y4, y5, y6, y7, y8⟩ := r
      have d0 : wr.cell? ⟨sb, so + k * 9, none⟩ = some (.string x0) := hsc9 0 _ rfl
      have d1 : wr.cell? ⟨sb, so + k * 9 + 1, none⟩ = some (.int .i64 x1) := hsc9 1 _ rfl
      have d2 : wr.cell? ⟨sb, so + k * 9 + 2, none⟩ = some (.string x2) := hsc9 2 _ rfl
      have d3 : wr.cell? ⟨sb, so + k * 9 + 3, none⟩ = some (.int .i64 x3) := hsc9 3 _ rfl
      have d4 : wr.cell? ⟨sb, so + k * 9 + 4, none⟩ = some (.int .i64 x4) := hsc9 4 _ rfl
      have d5 : wr.cell? ⟨sb, so + k * 9 + 5, none⟩ = some (.int .i64 x5) := hsc9 5 _ rfl
      have d6 : wr.cell? ⟨sb, so + k * 9 + 6, none⟩ = some (.int .i64 x6) := hsc9 6 _ rfl
      have d7 : wr.cell? ⟨sb, so + k * 9 + 7, none⟩ = some (.int .u32 x7) := hsc9 7 _ rfl
      have d8 : wr.cell? ⟨sb, so + k * 9 + 8, none⟩ = some (.int .i64 x8) := hsc9 8 _ rfl
      have HXA := Lib.hid (heap_alloc_new wr (.cells #[.string x0, .int .i64 x1, .string x2, .int .i64 x3, .int .i64 x4, .int .i64 x5, .int .i64 x6, .int .u32 x7, .int .i64 x8] 53))
      have HXL := Lib.hid ((Array.getElem?_eq_some_iff.1 (heap_alloc_new wr (.cells #[.string x0, .int .i64 x1, .string x2, .int .i64 x3, .int .i64 x4, .int .i64 x5, .int .i64 x6, .int .u32 x7, .int .i64 x8] 53))).1)
      have HAL := Lib.hid (show Below w.heap.size w (wr.alloc (.cells #[.string x0, .int .i64 x1, .string x2, .int .i64 x3, .int .i64 x4, .int .i64 x5, .int .i64 x6, .int .u32 x7, .int .i64 x8] 53)) from HB.out.alloc HB.out.size _)
      obtain ⟨bx, hbx⟩ : ∃ bx, bx = p (⟨x0, x1, x2, x3, x4, x5, x6, x7, x8⟩ : EntV) := ⟨_, rfl⟩
      have HBX := Lib.hid hbx
      have HSLA := Lib.hid (show sb < (wr.alloc (.cells #[.string x0, .int .i64 x1, .string x2, .int .i64 x3, .int .i64 x4, .int .i64 x5, .int .i64 x6, .int .u32 x7, .int .i64 x8] 53)).heap.size from Nat.lt_of_lt_of_le hsl ((Below.refl wr.heap.size wr).alloc (Nat.le_refl _) _).size)
      have HSYA := Lib.hid (show ∀ j u, (EntS.f (⟨y0, y1, y2, y3, y4, y5, y6, y7, y8⟩ : EntV))[j]? = some u → (wr.alloc (.cells #[.string x0, .int .i64 x1, .string x2, .int .i64 x3, .int .i64 x4, .int .i64 x5, .int .i64 x6, .int .u32 x7, .int .i64 x8] 53)).cell? ⟨sb, so + (k - 1) * 9 + j, none⟩ = some u from fun j u hu => (((Below.refl wr.heap.size wr).alloc (Nat.le_refl _) (.cells #[.string x0, .int .i64 x1, .string x2, .int .i64 x3, .int .i64 x4, .int .i64 x5, .int .i64 x6, .int .u32 x7, .int .i64 x8] 53)).cell (p := ⟨sb, so + (k - 1) * 9 + j, none⟩) hsl).trans (HSY.out j u hu))
      have HOKX := Lib.hid (EntS.mono ((Below.refl wr.heap.size wr).alloc (Nat.le_refl _) (.cells #[.string x0, .int .i64 x1, .string x2, .int .i64 x3, .int .i64 x4, .int .i64 x5, .int .i64 x6, .int .u32 x7, .int .i64 x8] 53)) hok)
      have HRX := Lib.hid (show ∀ W9, Below (wr.alloc (.cells #[.string x0, .int .i64 x1, .string x2, .int .i64 x3, .int .i64 x4, .int .i64 x5, .int .i64 x6, .int .u32 x7, .int .i64 x8] 53)).heap.size (wr.alloc (.cells #[.string x0, .int .i64 x1, .string x2, .int .i64 x3, .int .i64 x4, .int .i64 x5, .int .i64 x6, .int .u32 x7, .int .i64 x8] 53)) W9 → Calls Tryz.prog 35 #[.agg #[.string x0, .int .i64 x1, .string x2, .int .i64 x3, .int .i64 x4, .int .i64 x5, .int .i64 x6, .int .u32 x7, .int .i64 x8], .pointer (some ⟨mb, 0, none⟩)] W9 fun e w' => e = .returned (.bool bx) ∧ Below W9.heap.size W9 w' from fun W9 hB => by
        rw [hbx]
        exact HR.out W9 (⟨x0, x1, x2, x3, x4, x5, x6, x7, x8⟩ : EntV) (by rw [hse]; exact vec_mem (S := EntS) (by rw [HL.out]; exact hkn)) (HAL.out.trans (hB.mono HAL.out.size)) (EntS.mono hB HOKX.out))
      clear hsc9 hse hre hsl hok HSL HSY
      have HSL := HSLA
      have HSY := HSYA
      clear HSLA HSYA
      go_wp2_with fail
      cases bx with
      | false =>
        have HNO := Lib.hid (RisIs.no (p := p) (cm := fun a b => cmpS a.key b.key) (d := EntS.z) (l := l) hkn (fun g => by have h1 := g.1; rw [← HSE.out, ← HBX.out] at h1; cases h1))
        clear hbx
        refine wp_region_fill (by kernel_rfl) (by kernel_rfl) (by kernel_rfl) (Below (wr.alloc (.cells #[.string x0, .int .i64 x1, .string x2, .int .i64 x3, .int .i64 x4, .int .i64 x5, .int .i64 x6, .int .u32 x7, .int .i64 x8] 53)).heap.size (wr.alloc (.cells #[.string x0, .int .i64 x1, .string x2, .int .i64 x3, .int .i64 x4, .int .i64 x5, .int .i64 x6, .int .u32 x7, .int .i64 x8] 53))) (FV (fun j_9 => match j_9 with | 0 => some (.func (.func 35) #[] #[.pointer (some ⟨mb, 0, none⟩)]) | 1 => some (.agg #[.string x0, .int .i64 x1, .string x2, .int .i64 x3, .int .i64 x4, .int .i64 x5, .int .i64 x6, .int .u32 x7, .int .i64 x8]) | 2 => some (.bool false) | 3 => some (.bool true) | 4 => some (.bool true) | 5 => some (undef) | 6 => some (undef) | 7 => some (undef) | 8 => some (undef) | 9 => some (undef) | 10 => some (undef) | 11 => some (undef) | 12 => some (undef) | 13 => some (undef) | 14 => some (undef) | 15 => some (undef) | 16 => some (undef) | 17 => some (undef) | 18 => some (.bool true) | _ => none) (fun _ _ => True)) (Below.refl _ _).drew ?_ ?_
        · intro i9 o ho V w9 K hJ hdep hK
          have HJ := Lib.hid hJ
          simp only [fill, slotOf, List.size_toArray, List.length_cons, List.length_nil, Nat.reduceAdd, List.getElem?_toArray, List.getElem?_cons_zero, List.getElem?_cons_succ, Option.bind_some, Act.put, List.setIfInBounds_toArray, List.set_cons_zero, List.set_cons_succ] at hK ⊢
          have hin : i9 < 19 := (Array.getElem?_eq_some_iff.1 ho).1
          have hcs : i9 = 0 ∨ i9 = 1 ∨ i9 = 2 ∨ i9 = 3 ∨ i9 = 4 ∨ i9 = 5 ∨ i9 = 6 ∨ i9 = 7 ∨ i9 = 8 ∨ i9 = 9 ∨ i9 = 10 ∨ i9 = 11 ∨ i9 = 12 ∨ i9 = 13 ∨ i9 = 14 ∨ i9 = 15 ∨ i9 = 16 ∨ i9 = 17 ∨ i9 = 18 := by omega
          clear hin
          rcases hcs with rfl | rfl | rfl | rfl | rfl | rfl | rfl | rfl | rfl | rfl | rfl | rfl | rfl | rfl | rfl | rfl | rfl | rfl | rfl
          · obtain rfl := Option.some.inj ho.symm
            clear hdep ho hJ
            try simp only [fill, slotOf, List.size_toArray, List.length_cons, List.length_nil, Nat.reduceAdd, List.getElem?_toArray, List.getElem?_cons_zero, List.getElem?_cons_succ, Option.bind_some, Act.put, List.setIfInBounds_toArray, List.set_cons_zero, List.set_cons_succ] at hK ⊢
            go_simp
            exact hK (.func (.func 35) #[] #[.pointer (some ⟨mb, 0, none⟩)]) _ HJ.out rfl (fun j y h => h) _ rfl
          · obtain rfl := Option.some.inj ho.symm
            have e0 : w9.cell? ⟨wr.heap.size, 0, none⟩ = some (.string x0) := (hJ.cell (p := ⟨wr.heap.size, 0, none⟩) HXL.out).trans (cell_blk HXA.out rfl)
            have e1 : w9.cell? ⟨wr.heap.size, 1, none⟩ = some (.int .i64 x1) := (hJ.cell (p := ⟨wr.heap.size, 1, none⟩) HXL.out).trans (cell_blk HXA.out rfl)
            have e2 : w9.cell? ⟨wr.heap.size, 2, none⟩ = some (.string x2) := (hJ.cell (p := ⟨wr.heap.size, 2, none⟩) HXL.out).trans (cell_blk HXA.out rfl)
            have e3 : w9.cell? ⟨wr.heap.size, 3, none⟩ = some (.int .i64 x3) := (hJ.cell (p := ⟨wr.heap.size, 3, none⟩) HXL.out).trans (cell_blk HXA.out rfl)
            have e4 : w9.cell? ⟨wr.heap.size, 4, none⟩ = some (.int .i64 x4) := (hJ.cell (p := ⟨wr.heap.size, 4, none⟩) HXL.out).trans (cell_blk HXA.out rfl)
            have e5 : w9.cell? ⟨wr.heap.size, 5, none⟩ = some (.int .i64 x5) := (hJ.cell (p := ⟨wr.heap.size, 5, none⟩) HXL.out).trans (cell_blk HXA.out rfl)
            have e6 : w9.cell? ⟨wr.heap.size, 6, none⟩ = some (.int .i64 x6) := (hJ.cell (p := ⟨wr.heap.size, 6, none⟩) HXL.out).trans (cell_blk HXA.out rfl)
            have e7 : w9.cell? ⟨wr.heap.size, 7, none⟩ = some (.int .u32 x7) := (hJ.cell (p := ⟨wr.heap.size, 7, none⟩) HXL.out).trans (cell_blk HXA.out rfl)
            have e8 : w9.cell? ⟨wr.heap.size, 8, none⟩ = some (.int .i64 x8) := (hJ.cell (p := ⟨wr.heap.size, 8, none⟩) HXL.out).trans (cell_blk HXA.out rfl)
            clear hdep ho hJ
            try simp only [fill, slotOf, List.size_toArray, List.length_cons, List.length_nil, Nat.reduceAdd, List.getElem?_toArray, List.getElem?_cons_zero, List.getElem?_cons_succ, Option.bind_some, Act.put, List.setIfInBounds_toArray, List.set_cons_zero, List.set_cons_succ] at hK ⊢
            go_simp
            exact hK (.agg #[.string x0, .int .i64 x1, .string x2, .int .i64 x3, .int .i64 x4, .int .i64 x5, .int .i64 x6, .int .u32 x7, .int .i64 x8]) _ HJ.out rfl (fun j y h => h) _ rfl
          · obtain rfl := Option.some.inj ho.symm
            have d0 : V 0 = .func (.func 35) #[] #[.pointer (some ⟨mb, 0, none⟩)] := hdep ⟨0, .data⟩ (by simp) rfl
            have d1 : V 1 = .agg #[.string x0, .int .i64 x1, .string x2, .int .i64 x3, .int .i64 x4, .int .i64 x5, .int .i64 x6, .int .u32 x7, .int .i64 x8] := hdep ⟨1, .data⟩ (by simp) rfl
            clear hdep ho hJ
            try simp only [fill, slotOf, List.size_toArray, List.length_cons, List.length_nil, Nat.reduceAdd, List.getElem?_toArray, List.getElem?_cons_zero, List.getElem?_cons_succ, Option.bind_some, Act.put, List.setIfInBounds_toArray, List.set_cons_zero, List.set_cons_succ] at hK ⊢
            rw [d0, d1] at hK ⊢
            go_simp
            refine (HRX.out w9 HJ.out).mono ?_
            rintro e w8 ⟨rfl, hb8⟩
            exact hK (.bool false) _ (HJ.out.trans (hb8.mono HJ.out.size)) rfl (FV.mono ((fun _ _ _ => trivial) hb8)) _ rfl
          · obtain rfl := Option.some.inj ho.symm
            have d2 : V 2 = .bool false := hdep ⟨2, .data⟩ (by simp) rfl
            clear hdep ho hJ
            try simp only [fill, slotOf, List.size_toArray, List.length_cons, List.length_nil, Nat.reduceAdd, List.getElem?_toArray, List.getElem?_cons_zero, List.getElem?_cons_succ, Option.bind_some, Act.put, List.setIfInBounds_toArray, List.set_cons_zero, List.set_cons_succ] at hK ⊢
            rw [d2] at hK ⊢
            go_simp
            exact hK (.bool true) _ HJ.out rfl (fun j y h => h) _ rfl
          · obtain rfl := Option.some.inj ho.symm
            have d3 : V 3 = .bool true := hdep ⟨3, .data⟩ (by simp) rfl
            clear hdep ho hJ
            try simp only [fill, slotOf, List.size_toArray, List.length_cons, List.length_nil, Nat.reduceAdd, List.getElem?_toArray, List.getElem?_cons_zero, List.getElem?_cons_succ, Option.bind_some, Act.put, List.setIfInBounds_toArray, List.set_cons_zero, List.set_cons_succ] at hK ⊢
            rw [d3] at hK ⊢
            go_simp
            exact hK (.bool true) _ HJ.out rfl (fun j y h => h) _ rfl
          · obtain rfl := Option.some.inj ho.symm
            have d4 : V 4 = .bool true := hdep ⟨4, .guard⟩ (by simp) rfl
            clear hdep ho hJ
            try simp only [fill, slotOf, List.size_toArray, List.length_cons, List.length_nil, Nat.reduceAdd, List.getElem?_toArray, List.getElem?_cons_zero, List.getElem?_cons_succ, Option.bind_some, Act.put, List.setIfInBounds_toArray, List.set_cons_zero, List.set_cons_succ] at hK ⊢
            rw [d4] at hK ⊢
            go_simp
            exact hK (undef) _ HJ.out rfl (fun j y h => h) _ rfl
          · obtain rfl := Option.some.inj ho.symm
            have d4 : V 4 = .bool true := hdep ⟨4, .guard⟩ (by simp) rfl
            clear hdep ho hJ
            try simp only [fill, slotOf, List.size_toArray, List.length_cons, List.length_nil, Nat.reduceAdd, List.getElem?_toArray, List.getElem?_cons_zero, List.getElem?_cons_succ, Option.bind_some, Act.put, List.setIfInBounds_toArray, List.set_cons_zero, List.set_cons_succ] at hK ⊢
            rw [d4] at hK ⊢
            go_simp
            exact hK (undef) _ HJ.out rfl (fun j y h => h) _ rfl
          · obtain rfl := Option.some.inj ho.symm
            have d4 : V 4 = .bool true := hdep ⟨4, .guard⟩ (by simp) rfl
            clear hdep ho hJ
            try simp only [fill, slotOf, List.size_toArray, List.length_cons, List.length_nil, Nat.reduceAdd, List.getElem?_toArray, List.getElem?_cons_zero, List.getElem?_cons_succ, Option.bind_some, Act.put, List.setIfInBounds_toArray, List.set_cons_zero, List.set_cons_succ] at hK ⊢
            rw [d4] at hK ⊢
            go_simp
            exact hK (undef) _ HJ.out rfl (fun j y h => h) _ rfl
          · obtain rfl := Option.some.inj ho.symm
            have d7 : V 7 = undef := hdep ⟨7, .guard⟩ (by simp) rfl
            clear hdep ho hJ
            try simp only [fill, slotOf, List.size_toArray, List.length_cons, List.length_nil, Nat.reduceAdd, List.getElem?_toArray, List.getElem?_cons_zero, List.getElem?_cons_succ, Option.bind_some, Act.put, List.setIfInBounds_toArray, List.set_cons_zero, List.set_cons_succ] at hK ⊢
            rw [d7] at hK ⊢
            go_simp
            exact hK (undef) _ HJ.out rfl (fun j y h => h) _ rfl
          · obtain rfl := Option.some.inj ho.symm
            have d7 : V 7 = undef := hdep ⟨7, .guard⟩ (by simp) rfl
            clear hdep ho hJ
            try simp only [fill, slotOf, List.size_toArray, List.length_cons, List.length_nil, Nat.reduceAdd, List.getElem?_toArray, List.getElem?_cons_zero, List.getElem?_cons_succ, Option.bind_some, Act.put, List.setIfInBounds_toArray, List.set_cons_zero, List.set_cons_succ] at hK ⊢
            rw [d7] at hK ⊢
            go_simp
            exact hK (undef) _ HJ.out rfl (fun j y h => h) _ rfl
          · obtain rfl := Option.some.inj ho.symm
            have d7 : V 7 = undef := hdep ⟨7, .guard⟩ (by simp) rfl
            clear hdep ho hJ
            try simp only [fill, slotOf, List.size_toArray, List.length_cons, List.length_nil, Nat.reduceAdd, List.getElem?_toArray, List.getElem?_cons_zero, List.getElem?_cons_succ, Option.bind_some, Act.put, List.setIfInBounds_toArray, List.set_cons_zero, List.set_cons_succ] at hK ⊢
            rw [d7] at hK ⊢
            go_simp
            exact hK (undef) _ HJ.out rfl (fun j y h => h) _ rfl
          · obtain rfl := Option.some.inj ho.symm
            have d7 : V 7 = undef := hdep ⟨7, .guard⟩ (by simp) rfl
            clear hdep ho hJ
            try simp only [fill, slotOf, List.size_toArray, List.length_cons, List.length_nil, Nat.reduceAdd, List.getElem?_toArray, List.getElem?_cons_zero, List.getElem?_cons_succ, Option.bind_some, Act.put, List.setIfInBounds_toArray, List.set_cons_zero, List.set_cons_succ] at hK ⊢
            rw [d7] at hK ⊢
            go_simp
            exact hK (undef) _ HJ.out rfl (fun j y h => h) _ rfl
          · obtain rfl := Option.some.inj ho.symm
            have d7 : V 7 = undef := hdep ⟨7, .guard⟩ (by simp) rfl
            clear hdep ho hJ
            try simp only [fill, slotOf, List.size_toArray, List.length_cons, List.length_nil, Nat.reduceAdd, List.getElem?_toArray, List.getElem?_cons_zero, List.getElem?_cons_succ, Option.bind_some, Act.put, List.setIfInBounds_toArray, List.set_cons_zero, List.set_cons_succ] at hK ⊢
            rw [d7] at hK ⊢
            go_simp
            exact hK (undef) _ HJ.out rfl (fun j y h => h) _ rfl
          · obtain rfl := Option.some.inj ho.symm
            have d7 : V 7 = undef := hdep ⟨7, .guard⟩ (by simp) rfl
            clear hdep ho hJ
            try simp only [fill, slotOf, List.size_toArray, List.length_cons, List.length_nil, Nat.reduceAdd, List.getElem?_toArray, List.getElem?_cons_zero, List.getElem?_cons_succ, Option.bind_some, Act.put, List.setIfInBounds_toArray, List.set_cons_zero, List.set_cons_succ] at hK ⊢
            rw [d7] at hK ⊢
            go_simp
            exact hK (undef) _ HJ.out rfl (fun j y h => h) _ rfl
          · obtain rfl := Option.some.inj ho.symm
            have d7 : V 7 = undef := hdep ⟨7, .guard⟩ (by simp) rfl
            clear hdep ho hJ
            try simp only [fill, slotOf, List.size_toArray, List.length_cons, List.length_nil, Nat.reduceAdd, List.getElem?_toArray, List.getElem?_cons_zero, List.getElem?_cons_succ, Option.bind_some, Act.put, List.setIfInBounds_toArray, List.set_cons_zero, List.set_cons_succ] at hK ⊢
            rw [d7] at hK ⊢
            go_simp
            exact hK (undef) _ HJ.out rfl (fun j y h => h) _ rfl
          · obtain rfl := Option.some.inj ho.symm
            have d7 : V 7 = undef := hdep ⟨7, .guard⟩ (by simp) rfl
            clear hdep ho hJ
            try simp only [fill, slotOf, List.size_toArray, List.length_cons, List.length_nil, Nat.reduceAdd, List.getElem?_toArray, List.getElem?_cons_zero, List.getElem?_cons_succ, Option.bind_some, Act.put, List.setIfInBounds_toArray, List.set_cons_zero, List.set_cons_succ] at hK ⊢
            rw [d7] at hK ⊢
            go_simp
            exact hK (undef) _ HJ.out rfl (fun j y h => h) _ rfl
          · obtain rfl := Option.some.inj ho.symm
            have d7 : V 7 = undef := hdep ⟨7, .guard⟩ (by simp) rfl
            clear hdep ho hJ
            try simp only [fill, slotOf, List.size_toArray, List.length_cons, List.length_nil, Nat.reduceAdd, List.getElem?_toArray, List.getElem?_cons_zero, List.getElem?_cons_succ, Option.bind_some, Act.put, List.setIfInBounds_toArray, List.set_cons_zero, List.set_cons_succ] at hK ⊢
            rw [d7] at hK ⊢
            go_simp
            exact hK (undef) _ HJ.out rfl (fun j y h => h) _ rfl
          · obtain rfl := Option.some.inj ho.symm
            have d4 : V 4 = .bool true := hdep ⟨4, .guard⟩ (by simp) rfl
            clear hdep ho hJ
            try simp only [fill, slotOf, List.size_toArray, List.length_cons, List.length_nil, Nat.reduceAdd, List.getElem?_toArray, List.getElem?_cons_zero, List.getElem?_cons_succ, Option.bind_some, Act.put, List.setIfInBounds_toArray, List.set_cons_zero, List.set_cons_succ] at hK ⊢
            rw [d4] at hK ⊢
            go_simp
            exact hK (undef) _ HJ.out rfl (fun j y h => h) _ rfl
          · obtain rfl := Option.some.inj ho.symm
            have d4 : V 4 = .bool true := hdep ⟨4, .data⟩ (by simp) rfl
            clear hdep ho hJ
            try simp only [fill, slotOf, List.size_toArray, List.length_cons, List.length_nil, Nat.reduceAdd, List.getElem?_toArray, List.getElem?_cons_zero, List.getElem?_cons_succ, Option.bind_some, Act.put, List.setIfInBounds_toArray, List.set_cons_zero, List.set_cons_succ] at hK ⊢
            rw [d4] at hK ⊢
            go_simp
            exact hK (.bool true) _ HJ.out rfl (fun j y h => h) _ rfl
        · intro V w9 hJ hall
          have dL : V 18 = .bool true := hall 18 (by decide)
          have HJ9 := Lib.hid hJ
          clear hall hJ
          simp only [fill, slotOf, List.size_toArray, List.length_cons, List.length_nil, Nat.reduceAdd, List.getElem?_toArray, List.getElem?_cons_zero, List.getElem?_cons_succ, Option.bind_some, Act.put, List.setIfInBounds_toArray, List.set_cons_zero, List.set_cons_succ]
          rw [dL]
          clear dL
          have HBZ := Lib.hid (HAL.out.trans (HJ9.out.mono HAL.out.size))
          go_wp2_with fail
          go_ret
          exact ⟨HNO.out, HBZ.out⟩
      | true =>
        by_cases hk0 : k = 0
        · subst hk0
          have HOK2 := Lib.hid (HOK.out.succ (by rw [← HSE.out, ← HBX.out]) (fun g => absurd g (Nat.lt_irrefl 0)))
          clear hbx
          refine wp_region_fill (by kernel_rfl) (by kernel_rfl) (by kernel_rfl) (Below (wr.alloc (.cells #[.string x0, .int .i64 x1, .string x2, .int .i64 x3, .int .i64 x4, .int .i64 x5, .int .i64 x6, .int .u32 x7, .int .i64 x8] 53)).heap.size (wr.alloc (.cells #[.string x0, .int .i64 x1, .string x2, .int .i64 x3, .int .i64 x4, .int .i64 x5, .int .i64 x6, .int .u32 x7, .int .i64 x8] 53))) (FV (fun j_9 => match j_9 with | 0 => some (.func (.func 35) #[] #[.pointer (some ⟨mb, 0, none⟩)]) | 1 => some (.agg #[.string x0, .int .i64 x1, .string x2, .int .i64 x3, .int .i64 x4, .int .i64 x5, .int .i64 x6, .int .u32 x7, .int .i64 x8]) | 2 => some (.bool true) | 3 => some (.bool false) | 4 => some (.bool false) | 5 => some (.int .i64 0) | 6 => some (.bool false) | 7 => some (.bool false) | 8 => some (undef) | 9 => some (undef) | 10 => some (undef) | 11 => some (undef) | 12 => some (undef) | 13 => some (undef) | 14 => some (undef) | 15 => some (undef) | 16 => some (undef) | 17 => some (.bool false) | 18 => some (.bool false) | _ => none) (fun _ _ => True)) (Below.refl _ _).drew ?_ ?_
          · intro i9 o ho V w9 K hJ hdep hK
            have HJ := Lib.hid hJ
            simp only [fill, slotOf, List.size_toArray, List.length_cons, List.length_nil, Nat.reduceAdd, List.getElem?_toArray, List.getElem?_cons_zero, List.getElem?_cons_succ, Option.bind_some, Act.put, List.setIfInBounds_toArray, List.set_cons_zero, List.set_cons_succ] at hK ⊢
            have hin : i9 < 19 := (Array.getElem?_eq_some_iff.1 ho).1
            have hcs : i9 = 0 ∨ i9 = 1 ∨ i9 = 2 ∨ i9 = 3 ∨ i9 = 4 ∨ i9 = 5 ∨ i9 = 6 ∨ i9 = 7 ∨ i9 = 8 ∨ i9 = 9 ∨ i9 = 10 ∨ i9 = 11 ∨ i9 = 12 ∨ i9 = 13 ∨ i9 = 14 ∨ i9 = 15 ∨ i9 = 16 ∨ i9 = 17 ∨ i9 = 18 := by omega
            clear hin
            rcases hcs with rfl | rfl | rfl | rfl | rfl | rfl | rfl | rfl | rfl | rfl | rfl | rfl | rfl | rfl | rfl | rfl | rfl | rfl | rfl
            · obtain rfl := Option.some.inj ho.symm
              clear hdep ho hJ
              try simp only [fill, slotOf, List.size_toArray, List.length_cons, List.length_nil, Nat.reduceAdd, List.getElem?_toArray, List.getElem?_cons_zero, List.getElem?_cons_succ, Option.bind_some, Act.put, List.setIfInBounds_toArray, List.set_cons_zero, List.set_cons_succ] at hK ⊢
              go_simp
              exact hK (.func (.func 35) #[] #[.pointer (some ⟨mb, 0, none⟩)]) _ HJ.out rfl (fun j y h => h) _ rfl
            · obtain rfl := Option.some.inj ho.symm
              have e0 : w9.cell? ⟨wr.heap.size, 0, none⟩ = some (.string x0) := (hJ.cell (p := ⟨wr.heap.size, 0, none⟩) HXL.out).trans (cell_blk HXA.out rfl)
              have e1 : w9.cell? ⟨wr.heap.size, 1, none⟩ = some (.int .i64 x1) := (hJ.cell (p := ⟨wr.heap.size, 1, none⟩) HXL.out).trans (cell_blk HXA.out rfl)
              have e2 : w9.cell? ⟨wr.heap.size, 2, none⟩ = some (.string x2) := (hJ.cell (p := ⟨wr.heap.size, 2, none⟩) HXL.out).trans (cell_blk HXA.out rfl)
              have e3 : w9.cell? ⟨wr.heap.size, 3, none⟩ = some (.int .i64 x3) := (hJ.cell (p := ⟨wr.heap.size, 3, none⟩) HXL.out).trans (cell_blk HXA.out rfl)
              have e4 : w9.cell? ⟨wr.heap.size, 4, none⟩ = some (.int .i64 x4) := (hJ.cell (p := ⟨wr.heap.size, 4, none⟩) HXL.out).trans (cell_blk HXA.out rfl)
              have e5 : w9.cell? ⟨wr.heap.size, 5, none⟩ = some (.int .i64 x5) := (hJ.cell (p := ⟨wr.heap.size, 5, none⟩) HXL.out).trans (cell_blk HXA.out rfl)
              have e6 : w9.cell? ⟨wr.heap.size, 6, none⟩ = some (.int .i64 x6) := (hJ.cell (p := ⟨wr.heap.size, 6, none⟩) HXL.out).trans (cell_blk HXA.out rfl)
              have e7 : w9.cell? ⟨wr.heap.size, 7, none⟩ = some (.int .u32 x7) := (hJ.cell (p := ⟨wr.heap.size, 7, none⟩) HXL.out).trans (cell_blk HXA.out rfl)
              have e8 : w9.cell? ⟨wr.heap.size, 8, none⟩ = some (.int .i64 x8) := (hJ.cell (p := ⟨wr.heap.size, 8, none⟩) HXL.out).trans (cell_blk HXA.out rfl)
              clear hdep ho hJ
              try simp only [fill, slotOf, List.size_toArray, List.length_cons, List.length_nil, Nat.reduceAdd, List.getElem?_toArray, List.getElem?_cons_zero, List.getElem?_cons_succ, Option.bind_some, Act.put, List.setIfInBounds_toArray, List.set_cons_zero, List.set_cons_succ] at hK ⊢
              go_simp
              exact hK (.agg #[.string x0, .int .i64 x1, .string x2, .int .i64 x3, .int .i64 x4, .int .i64 x5, .int .i64 x6, .int .u32 x7, .int .i64 x8]) _ HJ.out rfl (fun j y h => h) _ rfl
            · obtain rfl := Option.some.inj ho.symm
              have d0 : V 0 = .func (.func 35) #[] #[.pointer (some ⟨mb, 0, none⟩)] := hdep ⟨0, .data⟩ (by simp) rfl
              have d1 : V 1 = .agg #[.string x0, .int .i64 x1, .string x2, .int .i64 x3, .int .i64 x4, .int .i64 x5, .int .i64 x6, .int .u32 x7, .int .i64 x8] := hdep ⟨1, .data⟩ (by simp) rfl
              clear hdep ho hJ
              try simp only [fill, slotOf, List.size_toArray, List.length_cons, List.length_nil, Nat.reduceAdd, List.getElem?_toArray, List.getElem?_cons_zero, List.getElem?_cons_succ, Option.bind_some, Act.put, List.setIfInBounds_toArray, List.set_cons_zero, List.set_cons_succ] at hK ⊢
              rw [d0, d1] at hK ⊢
              go_simp
              refine (HRX.out w9 HJ.out).mono ?_
              rintro e w8 ⟨rfl, hb8⟩
              exact hK (.bool true) _ (HJ.out.trans (hb8.mono HJ.out.size)) rfl (FV.mono ((fun _ _ _ => trivial) hb8)) _ rfl
            · obtain rfl := Option.some.inj ho.symm
              have d2 : V 2 = .bool true := hdep ⟨2, .data⟩ (by simp) rfl
              clear hdep ho hJ
              try simp only [fill, slotOf, List.size_toArray, List.length_cons, List.length_nil, Nat.reduceAdd, List.getElem?_toArray, List.getElem?_cons_zero, List.getElem?_cons_succ, Option.bind_some, Act.put, List.setIfInBounds_toArray, List.set_cons_zero, List.set_cons_succ] at hK ⊢
              rw [d2] at hK ⊢
              go_simp
              exact hK (.bool false) _ HJ.out rfl (fun j y h => h) _ rfl
            · obtain rfl := Option.some.inj ho.symm
              have d3 : V 3 = .bool false := hdep ⟨3, .data⟩ (by simp) rfl
              clear hdep ho hJ
              try simp only [fill, slotOf, List.size_toArray, List.length_cons, List.length_nil, Nat.reduceAdd, List.getElem?_toArray, List.getElem?_cons_zero, List.getElem?_cons_succ, Option.bind_some, Act.put, List.setIfInBounds_toArray, List.set_cons_zero, List.set_cons_succ] at hK ⊢
              rw [d3] at hK ⊢
              go_simp
              exact hK (.bool false) _ HJ.out rfl (fun j y h => h) _ rfl
            · obtain rfl := Option.some.inj ho.symm
              have d4 : V 4 = .bool false := hdep ⟨4, .guard⟩ (by simp) rfl
              clear hdep ho hJ
              try simp only [fill, slotOf, List.size_toArray, List.length_cons, List.length_nil, Nat.reduceAdd, List.getElem?_toArray, List.getElem?_cons_zero, List.getElem?_cons_succ, Option.bind_some, Act.put, List.setIfInBounds_toArray, List.set_cons_zero, List.set_cons_succ] at hK ⊢
              rw [d4] at hK ⊢
              go_simp
              exact hK (.int .i64 0) _ HJ.out rfl (fun j y h => h) _ rfl
            · obtain rfl := Option.some.inj ho.symm
              have d5 : V 5 = .int .i64 0 := hdep ⟨5, .data⟩ (by simp) rfl
              have d4 : V 4 = .bool false := hdep ⟨4, .guard⟩ (by simp) rfl
              clear hdep ho hJ
              try simp only [fill, slotOf, List.size_toArray, List.length_cons, List.length_nil, Nat.reduceAdd, List.getElem?_toArray, List.getElem?_cons_zero, List.getElem?_cons_succ, Option.bind_some, Act.put, List.setIfInBounds_toArray, List.set_cons_zero, List.set_cons_succ] at hK ⊢
              rw [d5, d4] at hK ⊢
              go_simp
              exact hK (.bool false) _ HJ.out rfl (fun j y h => h) _ rfl
            · obtain rfl := Option.some.inj ho.symm
              have d6 : V 6 = .bool false := hdep ⟨6, .data⟩ (by simp) rfl
              have d4 : V 4 = .bool false := hdep ⟨4, .guard⟩ (by simp) rfl
              clear hdep ho hJ
              try simp only [fill, slotOf, List.size_toArray, List.length_cons, List.length_nil, Nat.reduceAdd, List.getElem?_toArray, List.getElem?_cons_zero, List.getElem?_cons_succ, Option.bind_some, Act.put, List.setIfInBounds_toArray, List.set_cons_zero, List.set_cons_succ] at hK ⊢
              rw [d6, d4] at hK ⊢
              go_simp
              exact hK (.bool false) _ HJ.out rfl (fun j y h => h) _ rfl
            · obtain rfl := Option.some.inj ho.symm
              have d7 : V 7 = .bool false := hdep ⟨7, .guard⟩ (by simp) rfl
              clear hdep ho hJ
              try simp only [fill, slotOf, List.size_toArray, List.length_cons, List.length_nil, Nat.reduceAdd, List.getElem?_toArray, List.getElem?_cons_zero, List.getElem?_cons_succ, Option.bind_some, Act.put, List.setIfInBounds_toArray, List.set_cons_zero, List.set_cons_succ] at hK ⊢
              rw [d7] at hK ⊢
              go_simp
              exact hK (undef) _ HJ.out rfl (fun j y h => h) _ rfl
            · obtain rfl := Option.some.inj ho.symm
              have d7 : V 7 = .bool false := hdep ⟨7, .guard⟩ (by simp) rfl
              clear hdep ho hJ
              try simp only [fill, slotOf, List.size_toArray, List.length_cons, List.length_nil, Nat.reduceAdd, List.getElem?_toArray, List.getElem?_cons_zero, List.getElem?_cons_succ, Option.bind_some, Act.put, List.setIfInBounds_toArray, List.set_cons_zero, List.set_cons_succ] at hK ⊢
              rw [d7] at hK ⊢
              go_simp
              exact hK (undef) _ HJ.out rfl (fun j y h => h) _ rfl
            · obtain rfl := Option.some.inj ho.symm
              have d7 : V 7 = .bool false := hdep ⟨7, .guard⟩ (by simp) rfl
              clear hdep ho hJ
              try simp only [fill, slotOf, List.size_toArray, List.length_cons, List.length_nil, Nat.reduceAdd, List.getElem?_toArray, List.getElem?_cons_zero, List.getElem?_cons_succ, Option.bind_some, Act.put, List.setIfInBounds_toArray, List.set_cons_zero, List.set_cons_succ] at hK ⊢
              rw [d7] at hK ⊢
              go_simp
              exact hK (undef) _ HJ.out rfl (fun j y h => h) _ rfl
            · obtain rfl := Option.some.inj ho.symm
              have d7 : V 7 = .bool false := hdep ⟨7, .guard⟩ (by simp) rfl
              clear hdep ho hJ
              try simp only [fill, slotOf, List.size_toArray, List.length_cons, List.length_nil, Nat.reduceAdd, List.getElem?_toArray, List.getElem?_cons_zero, List.getElem?_cons_succ, Option.bind_some, Act.put, List.setIfInBounds_toArray, List.set_cons_zero, List.set_cons_succ] at hK ⊢
              rw [d7] at hK ⊢
              go_simp
              exact hK (undef) _ HJ.out rfl (fun j y h => h) _ rfl
            · obtain rfl := Option.some.inj ho.symm
              have d7 : V 7 = .bool false := hdep ⟨7, .guard⟩ (by simp) rfl
              clear hdep ho hJ
              try simp only [fill, slotOf, List.size_toArray, List.length_cons, List.length_nil, Nat.reduceAdd, List.getElem?_toArray, List.getElem?_cons_zero, List.getElem?_cons_succ, Option.bind_some, Act.put, List.setIfInBounds_toArray, List.set_cons_zero, List.set_cons_succ] at hK ⊢
              rw [d7] at hK ⊢
              go_simp
              exact hK (undef) _ HJ.out rfl (fun j y h => h) _ rfl
            · obtain rfl := Option.some.inj ho.symm
              have d7 : V 7 = .bool false := hdep ⟨7, .guard⟩ (by simp) rfl
              clear hdep ho hJ
              try simp only [fill, slotOf, List.size_toArray, List.length_cons, List.length_nil, Nat.reduceAdd, List.getElem?_toArray, List.getElem?_cons_zero, List.getElem?_cons_succ, Option.bind_some, Act.put, List.setIfInBounds_toArray, List.set_cons_zero, List.set_cons_succ] at hK ⊢
              rw [d7] at hK ⊢
              go_simp
              exact hK (undef) _ HJ.out rfl (fun j y h => h) _ rfl
            · obtain rfl := Option.some.inj ho.symm
              have d7 : V 7 = .bool false := hdep ⟨7, .guard⟩ (by simp) rfl
              clear hdep ho hJ
              try simp only [fill, slotOf, List.size_toArray, List.length_cons, List.length_nil, Nat.reduceAdd, List.getElem?_toArray, List.getElem?_cons_zero, List.getElem?_cons_succ, Option.bind_some, Act.put, List.setIfInBounds_toArray, List.set_cons_zero, List.set_cons_succ] at hK ⊢
              rw [d7] at hK ⊢
              go_simp
              exact hK (undef) _ HJ.out rfl (fun j y h => h) _ rfl
            · obtain rfl := Option.some.inj ho.symm
              have d7 : V 7 = .bool false := hdep ⟨7, .guard⟩ (by simp) rfl
              clear hdep ho hJ
              try simp only [fill, slotOf, List.size_toArray, List.length_cons, List.length_nil, Nat.reduceAdd, List.getElem?_toArray, List.getElem?_cons_zero, List.getElem?_cons_succ, Option.bind_some, Act.put, List.setIfInBounds_toArray, List.set_cons_zero, List.set_cons_succ] at hK ⊢
              rw [d7] at hK ⊢
              go_simp
              exact hK (undef) _ HJ.out rfl (fun j y h => h) _ rfl
            · obtain rfl := Option.some.inj ho.symm
              have d7 : V 7 = .bool false := hdep ⟨7, .guard⟩ (by simp) rfl
              clear hdep ho hJ
              try simp only [fill, slotOf, List.size_toArray, List.length_cons, List.length_nil, Nat.reduceAdd, List.getElem?_toArray, List.getElem?_cons_zero, List.getElem?_cons_succ, Option.bind_some, Act.put, List.setIfInBounds_toArray, List.set_cons_zero, List.set_cons_succ] at hK ⊢
              rw [d7] at hK ⊢
              go_simp
              exact hK (undef) _ HJ.out rfl (fun j y h => h) _ rfl
            · obtain rfl := Option.some.inj ho.symm
              have d7 : V 7 = .bool false := hdep ⟨7, .data⟩ (by simp) rfl
              have d4 : V 4 = .bool false := hdep ⟨4, .guard⟩ (by simp) rfl
              clear hdep ho hJ
              try simp only [fill, slotOf, List.size_toArray, List.length_cons, List.length_nil, Nat.reduceAdd, List.getElem?_toArray, List.getElem?_cons_zero, List.getElem?_cons_succ, Option.bind_some, Act.put, List.setIfInBounds_toArray, List.set_cons_zero, List.set_cons_succ] at hK ⊢
              rw [d7, d4] at hK ⊢
              go_simp
              exact hK (.bool false) _ HJ.out rfl (fun j y h => h) _ rfl
            · obtain rfl := Option.some.inj ho.symm
              have d4 : V 4 = .bool false := hdep ⟨4, .data⟩ (by simp) rfl
              have d17 : V 17 = .bool false := hdep ⟨17, .data⟩ (by simp) rfl
              clear hdep ho hJ
              try simp only [fill, slotOf, List.size_toArray, List.length_cons, List.length_nil, Nat.reduceAdd, List.getElem?_toArray, List.getElem?_cons_zero, List.getElem?_cons_succ, Option.bind_some, Act.put, List.setIfInBounds_toArray, List.set_cons_zero, List.set_cons_succ] at hK ⊢
              rw [d4, d17] at hK ⊢
              go_simp
              exact hK (.bool false) _ HJ.out rfl (fun j y h => h) _ rfl
          · intro V w9 hJ hall
            have dL : V 18 = .bool false := hall 18 (by decide)
            have HJ9 := Lib.hid hJ
            clear hall hJ
            simp only [fill, slotOf, List.size_toArray, List.length_cons, List.length_nil, Nat.reduceAdd, List.getElem?_toArray, List.getElem?_cons_zero, List.getElem?_cons_succ, Option.bind_some, Act.put, List.setIfInBounds_toArray, List.set_cons_zero, List.set_cons_succ]
            rw [dL]
            clear dL
            have HBZ := Lib.hid (HAL.out.trans (HJ9.out.mono HAL.out.size))
            go_wp2_with fail
            go_roundw
            case rel => exact ⟨1, by omega, rfl, HOK2, HBZ⟩
            case measure => simp [intOf]; try omega
        · obtain ⟨j, rfl⟩ : ∃ j, k = j + 1 := ⟨k - 1, by omega⟩
          have HSYJ := Lib.hid HSY.out
          simp only [Nat.add_sub_cancel] at HSYJ
          clear HSY
          have HSY := HSYJ
          clear HSYJ
          obtain ⟨zz, hzz⟩ : ∃ zz, zz = cmpS y0 x0 := ⟨_, rfl⟩
          have HCM := Lib.hid (show ∀ W9, Calls Tryz.prog 38 #[.agg #[.string y0, .int .i64 y1, .string y2, .int .i64 y3, .int .i64 y4, .int .i64 y5, .int .i64 y6, .int .u32 y7, .int .i64 y8], .agg #[.string x0, .int .i64 x1, .string x2, .int .i64 x3, .int .i64 x4, .int .i64 x5, .int .i64 x6, .int .u32 x7, .int .i64 x8]] W9 fun e w' => e = .returned (.int .i64 zz) ∧ Below W9.heap.size W9 w' from fun W9 => by rw [hzz]; exact byE_any y0 x0 y1 x1 y2 x2 y3 x3 y4 x4 y5 x5 y6 x6 y7 x7 y8 x8 W9)
          by_cases hge : zz ≥ 0
          · have HZ := Lib.hid (show decide (zz ≥ 0) = true from decide_eq_true hge)
            have HNO := Lib.hid (RisIs.no (p := p) (cm := fun a b => cmpS a.key b.key) (d := EntS.z) (l := l) hkn (fun g => by have h1 := g.2 (by omega); rw [← HSE.out, ← HRE.out] at h1; have h2 : cmpS y0 x0 < 0 := h1; rw [← hzz] at h2; omega))
            clear hbx hzz hge
            refine wp_region_fill (by kernel_rfl) (by kernel_rfl) (by kernel_rfl) (Below (wr.alloc (.cells #[.string x0, .int .i64 x1, .string x2, .int .i64 x3, .int .i64 x4, .int .i64 x5, .int .i64 x6, .int .u32 x7, .int .i64 x8] 53)).heap.size (wr.alloc (.cells #[.string x0, .int .i64 x1, .string x2, .int .i64 x3, .int .i64 x4, .int .i64 x5, .int .i64 x6, .int .u32 x7, .int .i64 x8] 53))) (FV (fun j_9 => match j_9 with | 0 => some (.func (.func 35) #[] #[.pointer (some ⟨mb, 0, none⟩)]) | 1 => some (.agg #[.string x0, .int .i64 x1, .string x2, .int .i64 x3, .int .i64 x4, .int .i64 x5, .int .i64 x6, .int .u32 x7, .int .i64 x8]) | 2 => some (.bool true) | 3 => some (.bool false) | 4 => some (.bool false) | 5 => some (.int .i64 ((j : Int) + 1)) | 6 => some (.bool true) | 7 => some (.bool true) | 8 => some (.func (.func 38) #[] #[]) | 9 => some (.slice (some ⟨sb, so, none⟩) n c) | 10 => some (.int .i64 ((j : Int) + 1)) | 11 => some (.int .i64 (j : Int)) | 12 => some (.pointer (some ⟨sb, so + j * 9, none⟩)) | 13 => some (.agg #[.string y0, .int .i64 y1, .string y2, .int .i64 y3, .int .i64 y4, .int .i64 y5, .int .i64 y6, .int .u32 y7, .int .i64 y8]) | 14 => some (.agg #[.string x0, .int .i64 x1, .string x2, .int .i64 x3, .int .i64 x4, .int .i64 x5, .int .i64 x6, .int .u32 x7, .int .i64 x8]) | 15 => some (.int .i64 zz) | 16 => some (.bool true) | 17 => some (.bool true) | 18 => some (.bool true) | _ => none) (fun _ _ => True)) (Below.refl _ _).drew ?_ ?_
            · intro i9 o ho V w9 K hJ hdep hK
              have HJ := Lib.hid hJ
              simp only [fill, slotOf, List.size_toArray, List.length_cons, List.length_nil, Nat.reduceAdd, List.getElem?_toArray, List.getElem?_cons_zero, List.getElem?_cons_succ, Option.bind_some, Act.put, List.setIfInBounds_toArray, List.set_cons_zero, List.set_cons_succ] at hK ⊢
              have hin : i9 < 19 := (Array.getElem?_eq_some_iff.1 ho).1
              have hcs : i9 = 0 ∨ i9 = 1 ∨ i9 = 2 ∨ i9 = 3 ∨ i9 = 4 ∨ i9 = 5 ∨ i9 = 6 ∨ i9 = 7 ∨ i9 = 8 ∨ i9 = 9 ∨ i9 = 10 ∨ i9 = 11 ∨ i9 = 12 ∨ i9 = 13 ∨ i9 = 14 ∨ i9 = 15 ∨ i9 = 16 ∨ i9 = 17 ∨ i9 = 18 := by omega
              clear hin
              rcases hcs with rfl | rfl | rfl | rfl | rfl | rfl | rfl | rfl | rfl | rfl | rfl | rfl | rfl | rfl | rfl | rfl | rfl | rfl | rfl
              · obtain rfl := Option.some.inj ho.symm
                clear hdep ho hJ
                try simp only [fill, slotOf, List.size_toArray, List.length_cons, List.length_nil, Nat.reduceAdd, List.getElem?_toArray, List.getElem?_cons_zero, List.getElem?_cons_succ, Option.bind_some, Act.put, List.setIfInBounds_toArray, List.set_cons_zero, List.set_cons_succ] at hK ⊢
                go_simp
                exact hK (.func (.func 35) #[] #[.pointer (some ⟨mb, 0, none⟩)]) _ HJ.out rfl (fun j y h => h) _ rfl
              · obtain rfl := Option.some.inj ho.symm
                have e0 : w9.cell? ⟨wr.heap.size, 0, none⟩ = some (.string x0) := (hJ.cell (p := ⟨wr.heap.size, 0, none⟩) HXL.out).trans (cell_blk HXA.out rfl)
                have e1 : w9.cell? ⟨wr.heap.size, 1, none⟩ = some (.int .i64 x1) := (hJ.cell (p := ⟨wr.heap.size, 1, none⟩) HXL.out).trans (cell_blk HXA.out rfl)
                have e2 : w9.cell? ⟨wr.heap.size, 2, none⟩ = some (.string x2) := (hJ.cell (p := ⟨wr.heap.size, 2, none⟩) HXL.out).trans (cell_blk HXA.out rfl)
                have e3 : w9.cell? ⟨wr.heap.size, 3, none⟩ = some (.int .i64 x3) := (hJ.cell (p := ⟨wr.heap.size, 3, none⟩) HXL.out).trans (cell_blk HXA.out rfl)
                have e4 : w9.cell? ⟨wr.heap.size, 4, none⟩ = some (.int .i64 x4) := (hJ.cell (p := ⟨wr.heap.size, 4, none⟩) HXL.out).trans (cell_blk HXA.out rfl)
                have e5 : w9.cell? ⟨wr.heap.size, 5, none⟩ = some (.int .i64 x5) := (hJ.cell (p := ⟨wr.heap.size, 5, none⟩) HXL.out).trans (cell_blk HXA.out rfl)
                have e6 : w9.cell? ⟨wr.heap.size, 6, none⟩ = some (.int .i64 x6) := (hJ.cell (p := ⟨wr.heap.size, 6, none⟩) HXL.out).trans (cell_blk HXA.out rfl)
                have e7 : w9.cell? ⟨wr.heap.size, 7, none⟩ = some (.int .u32 x7) := (hJ.cell (p := ⟨wr.heap.size, 7, none⟩) HXL.out).trans (cell_blk HXA.out rfl)
                have e8 : w9.cell? ⟨wr.heap.size, 8, none⟩ = some (.int .i64 x8) := (hJ.cell (p := ⟨wr.heap.size, 8, none⟩) HXL.out).trans (cell_blk HXA.out rfl)
                clear hdep ho hJ
                try simp only [fill, slotOf, List.size_toArray, List.length_cons, List.length_nil, Nat.reduceAdd, List.getElem?_toArray, List.getElem?_cons_zero, List.getElem?_cons_succ, Option.bind_some, Act.put, List.setIfInBounds_toArray, List.set_cons_zero, List.set_cons_succ] at hK ⊢
                go_simp
                exact hK (.agg #[.string x0, .int .i64 x1, .string x2, .int .i64 x3, .int .i64 x4, .int .i64 x5, .int .i64 x6, .int .u32 x7, .int .i64 x8]) _ HJ.out rfl (fun j y h => h) _ rfl
              · obtain rfl := Option.some.inj ho.symm
                have d0 : V 0 = .func (.func 35) #[] #[.pointer (some ⟨mb, 0, none⟩)] := hdep ⟨0, .data⟩ (by simp) rfl
                have d1 : V 1 = .agg #[.string x0, .int .i64 x1, .string x2, .int .i64 x3, .int .i64 x4, .int .i64 x5, .int .i64 x6, .int .u32 x7, .int .i64 x8] := hdep ⟨1, .data⟩ (by simp) rfl
                clear hdep ho hJ
                try simp only [fill, slotOf, List.size_toArray, List.length_cons, List.length_nil, Nat.reduceAdd, List.getElem?_toArray, List.getElem?_cons_zero, List.getElem?_cons_succ, Option.bind_some, Act.put, List.setIfInBounds_toArray, List.set_cons_zero, List.set_cons_succ] at hK ⊢
                rw [d0, d1] at hK ⊢
                go_simp
                refine (HRX.out w9 HJ.out).mono ?_
                rintro e w8 ⟨rfl, hb8⟩
                exact hK (.bool true) _ (HJ.out.trans (hb8.mono HJ.out.size)) rfl (FV.mono ((fun _ _ _ => trivial) hb8)) _ rfl
              · obtain rfl := Option.some.inj ho.symm
                have d2 : V 2 = .bool true := hdep ⟨2, .data⟩ (by simp) rfl
                clear hdep ho hJ
                try simp only [fill, slotOf, List.size_toArray, List.length_cons, List.length_nil, Nat.reduceAdd, List.getElem?_toArray, List.getElem?_cons_zero, List.getElem?_cons_succ, Option.bind_some, Act.put, List.setIfInBounds_toArray, List.set_cons_zero, List.set_cons_succ] at hK ⊢
                rw [d2] at hK ⊢
                go_simp
                exact hK (.bool false) _ HJ.out rfl (fun j y h => h) _ rfl
              · obtain rfl := Option.some.inj ho.symm
                have d3 : V 3 = .bool false := hdep ⟨3, .data⟩ (by simp) rfl
                clear hdep ho hJ
                try simp only [fill, slotOf, List.size_toArray, List.length_cons, List.length_nil, Nat.reduceAdd, List.getElem?_toArray, List.getElem?_cons_zero, List.getElem?_cons_succ, Option.bind_some, Act.put, List.setIfInBounds_toArray, List.set_cons_zero, List.set_cons_succ] at hK ⊢
                rw [d3] at hK ⊢
                go_simp
                exact hK (.bool false) _ HJ.out rfl (fun j y h => h) _ rfl
              · obtain rfl := Option.some.inj ho.symm
                have d4 : V 4 = .bool false := hdep ⟨4, .guard⟩ (by simp) rfl
                clear hdep ho hJ
                try simp only [fill, slotOf, List.size_toArray, List.length_cons, List.length_nil, Nat.reduceAdd, List.getElem?_toArray, List.getElem?_cons_zero, List.getElem?_cons_succ, Option.bind_some, Act.put, List.setIfInBounds_toArray, List.set_cons_zero, List.set_cons_succ] at hK ⊢
                rw [d4] at hK ⊢
                go_simp
                exact hK (.int .i64 ((j : Int) + 1)) _ HJ.out rfl (fun j y h => h) _ rfl
              · obtain rfl := Option.some.inj ho.symm
                have d5 : V 5 = .int .i64 ((j : Int) + 1) := hdep ⟨5, .data⟩ (by simp) rfl
                have d4 : V 4 = .bool false := hdep ⟨4, .guard⟩ (by simp) rfl
                have hk9 : decide ((j : Int) + 1 > 0) = true := decide_eq_true (by omega)
                clear hdep ho hJ
                try simp only [fill, slotOf, List.size_toArray, List.length_cons, List.length_nil, Nat.reduceAdd, List.getElem?_toArray, List.getElem?_cons_zero, List.getElem?_cons_succ, Option.bind_some, Act.put, List.setIfInBounds_toArray, List.set_cons_zero, List.set_cons_succ] at hK ⊢
                rw [d5, d4] at hK ⊢
                go_simp
                exact hK (.bool true) _ HJ.out rfl (fun j y h => h) _ rfl
              · obtain rfl := Option.some.inj ho.symm
                have d6 : V 6 = .bool true := hdep ⟨6, .data⟩ (by simp) rfl
                have d4 : V 4 = .bool false := hdep ⟨4, .guard⟩ (by simp) rfl
                clear hdep ho hJ
                try simp only [fill, slotOf, List.size_toArray, List.length_cons, List.length_nil, Nat.reduceAdd, List.getElem?_toArray, List.getElem?_cons_zero, List.getElem?_cons_succ, Option.bind_some, Act.put, List.setIfInBounds_toArray, List.set_cons_zero, List.set_cons_succ] at hK ⊢
                rw [d6, d4] at hK ⊢
                go_simp
                exact hK (.bool true) _ HJ.out rfl (fun j y h => h) _ rfl
              · obtain rfl := Option.some.inj ho.symm
                have d7 : V 7 = .bool true := hdep ⟨7, .guard⟩ (by simp) rfl
                clear hdep ho hJ
                try simp only [fill, slotOf, List.size_toArray, List.length_cons, List.length_nil, Nat.reduceAdd, List.getElem?_toArray, List.getElem?_cons_zero, List.getElem?_cons_succ, Option.bind_some, Act.put, List.setIfInBounds_toArray, List.set_cons_zero, List.set_cons_succ] at hK ⊢
                rw [d7] at hK ⊢
                go_simp
                exact hK (.func (.func 38) #[] #[]) _ HJ.out rfl (fun j y h => h) _ rfl
              · obtain rfl := Option.some.inj ho.symm
                have d7 : V 7 = .bool true := hdep ⟨7, .guard⟩ (by simp) rfl
                clear hdep ho hJ
                try simp only [fill, slotOf, List.size_toArray, List.length_cons, List.length_nil, Nat.reduceAdd, List.getElem?_toArray, List.getElem?_cons_zero, List.getElem?_cons_succ, Option.bind_some, Act.put, List.setIfInBounds_toArray, List.set_cons_zero, List.set_cons_succ] at hK ⊢
                rw [d7] at hK ⊢
                go_simp
                exact hK (.slice (some ⟨sb, so, none⟩) n c) _ HJ.out rfl (fun j y h => h) _ rfl
              · obtain rfl := Option.some.inj ho.symm
                have d7 : V 7 = .bool true := hdep ⟨7, .guard⟩ (by simp) rfl
                clear hdep ho hJ
                try simp only [fill, slotOf, List.size_toArray, List.length_cons, List.length_nil, Nat.reduceAdd, List.getElem?_toArray, List.getElem?_cons_zero, List.getElem?_cons_succ, Option.bind_some, Act.put, List.setIfInBounds_toArray, List.set_cons_zero, List.set_cons_succ] at hK ⊢
                rw [d7] at hK ⊢
                go_simp
                exact hK (.int .i64 ((j : Int) + 1)) _ HJ.out rfl (fun j y h => h) _ rfl
              · obtain rfl := Option.some.inj ho.symm
                have d10 : V 10 = .int .i64 ((j : Int) + 1) := hdep ⟨10, .data⟩ (by simp) rfl
                have d7 : V 7 = .bool true := hdep ⟨7, .guard⟩ (by simp) rfl
                have hw1 : IntKind.i64.wrap (j : Int) = (j : Int) := IntWalk.i64_in _ (by omega)
                have hw2 : IntKind.i64.wrap ((j : Int) + 1 - 1) = (j : Int) := by rw [Int.add_sub_cancel]; exact hw1
                clear hdep ho hJ
                try simp only [fill, slotOf, List.size_toArray, List.length_cons, List.length_nil, Nat.reduceAdd, List.getElem?_toArray, List.getElem?_cons_zero, List.getElem?_cons_succ, Option.bind_some, Act.put, List.setIfInBounds_toArray, List.set_cons_zero, List.set_cons_succ] at hK ⊢
                rw [d10, d7] at hK ⊢
                go_simp
                exact hK (.int .i64 (j : Int)) _ HJ.out rfl (fun j y h => h) _ rfl
              · obtain rfl := Option.some.inj ho.symm
                have d9 : V 9 = .slice (some ⟨sb, so, none⟩) n c := hdep ⟨9, .data⟩ (by simp) rfl
                have d11 : V 11 = .int .i64 (j : Int) := hdep ⟨11, .data⟩ (by simp) rfl
                have d7 : V 7 = .bool true := hdep ⟨7, .guard⟩ (by simp) rfl
                have hjn : j < n := by omega
                have hjn2 : (j : Int) < (n : Int) := by omega
                clear hdep ho hJ
                try simp only [fill, slotOf, List.size_toArray, List.length_cons, List.length_nil, Nat.reduceAdd, List.getElem?_toArray, List.getElem?_cons_zero, List.getElem?_cons_succ, Option.bind_some, Act.put, List.setIfInBounds_toArray, List.set_cons_zero, List.set_cons_succ] at hK ⊢
                rw [d9, d11, d7] at hK ⊢
                go_simp
                exact hK (.pointer (some ⟨sb, so + j * 9, none⟩)) _ HJ.out rfl (fun j y h => h) _ rfl
              · obtain rfl := Option.some.inj ho.symm
                have d12 : V 12 = .pointer (some ⟨sb, so + j * 9, none⟩) := hdep ⟨12, .data⟩ (by simp) rfl
                have d7 : V 7 = .bool true := hdep ⟨7, .guard⟩ (by simp) rfl
                have u0 : w9.cell? ⟨sb, so + j * 9, none⟩ = some (.string y0) := (hJ.cell (p := ⟨sb, so + j * 9 + 0, none⟩) HSL.out).trans (HSY.out 0 _ rfl)
                have u1 : w9.cell? ⟨sb, so + j * 9 + 1, none⟩ = some (.int .i64 y1) := (hJ.cell (p := ⟨sb, so + j * 9 + 1, none⟩) HSL.out).trans (HSY.out 1 _ rfl)
                have u2 : w9.cell? ⟨sb, so + j * 9 + 2, none⟩ = some (.string y2) := (hJ.cell (p := ⟨sb, so + j * 9 + 2, none⟩) HSL.out).trans (HSY.out 2 _ rfl)
                have u3 : w9.cell? ⟨sb, so + j * 9 + 3, none⟩ = some (.int .i64 y3) := (hJ.cell (p := ⟨sb, so + j * 9 + 3, none⟩) HSL.out).trans (HSY.out 3 _ rfl)
                have u4 : w9.cell? ⟨sb, so + j * 9 + 4, none⟩ = some (.int .i64 y4) := (hJ.cell (p := ⟨sb, so + j * 9 + 4, none⟩) HSL.out).trans (HSY.out 4 _ rfl)
                have u5 : w9.cell? ⟨sb, so + j * 9 + 5, none⟩ = some (.int .i64 y5) := (hJ.cell (p := ⟨sb, so + j * 9 + 5, none⟩) HSL.out).trans (HSY.out 5 _ rfl)
                have u6 : w9.cell? ⟨sb, so + j * 9 + 6, none⟩ = some (.int .i64 y6) := (hJ.cell (p := ⟨sb, so + j * 9 + 6, none⟩) HSL.out).trans (HSY.out 6 _ rfl)
                have u7 : w9.cell? ⟨sb, so + j * 9 + 7, none⟩ = some (.int .u32 y7) := (hJ.cell (p := ⟨sb, so + j * 9 + 7, none⟩) HSL.out).trans (HSY.out 7 _ rfl)
                have u8 : w9.cell? ⟨sb, so + j * 9 + 8, none⟩ = some (.int .i64 y8) := (hJ.cell (p := ⟨sb, so + j * 9 + 8, none⟩) HSL.out).trans (HSY.out 8 _ rfl)
                clear hdep ho hJ
                try simp only [fill, slotOf, List.size_toArray, List.length_cons, List.length_nil, Nat.reduceAdd, List.getElem?_toArray, List.getElem?_cons_zero, List.getElem?_cons_succ, Option.bind_some, Act.put, List.setIfInBounds_toArray, List.set_cons_zero, List.set_cons_succ] at hK ⊢
                rw [d12, d7] at hK ⊢
                go_simp
                exact hK (.agg #[.string y0, .int .i64 y1, .string y2, .int .i64 y3, .int .i64 y4, .int .i64 y5, .int .i64 y6, .int .u32 y7, .int .i64 y8]) _ HJ.out rfl (fun j y h => h) _ rfl
              · obtain rfl := Option.some.inj ho.symm
                have d7 : V 7 = .bool true := hdep ⟨7, .guard⟩ (by simp) rfl
                have e0 : w9.cell? ⟨wr.heap.size, 0, none⟩ = some (.string x0) := (hJ.cell (p := ⟨wr.heap.size, 0, none⟩) HXL.out).trans (cell_blk HXA.out rfl)
                have e1 : w9.cell? ⟨wr.heap.size, 1, none⟩ = some (.int .i64 x1) := (hJ.cell (p := ⟨wr.heap.size, 1, none⟩) HXL.out).trans (cell_blk HXA.out rfl)
                have e2 : w9.cell? ⟨wr.heap.size, 2, none⟩ = some (.string x2) := (hJ.cell (p := ⟨wr.heap.size, 2, none⟩) HXL.out).trans (cell_blk HXA.out rfl)
                have e3 : w9.cell? ⟨wr.heap.size, 3, none⟩ = some (.int .i64 x3) := (hJ.cell (p := ⟨wr.heap.size, 3, none⟩) HXL.out).trans (cell_blk HXA.out rfl)
                have e4 : w9.cell? ⟨wr.heap.size, 4, none⟩ = some (.int .i64 x4) := (hJ.cell (p := ⟨wr.heap.size, 4, none⟩) HXL.out).trans (cell_blk HXA.out rfl)
                have e5 : w9.cell? ⟨wr.heap.size, 5, none⟩ = some (.int .i64 x5) := (hJ.cell (p := ⟨wr.heap.size, 5, none⟩) HXL.out).trans (cell_blk HXA.out rfl)
                have e6 : w9.cell? ⟨wr.heap.size, 6, none⟩ = some (.int .i64 x6) := (hJ.cell (p := ⟨wr.heap.size, 6, none⟩) HXL.out).trans (cell_blk HXA.out rfl)
                have e7 : w9.cell? ⟨wr.heap.size, 7, none⟩ = some (.int .u32 x7) := (hJ.cell (p := ⟨wr.heap.size, 7, none⟩) HXL.out).trans (cell_blk HXA.out rfl)
                have e8 : w9.cell? ⟨wr.heap.size, 8, none⟩ = some (.int .i64 x8) := (hJ.cell (p := ⟨wr.heap.size, 8, none⟩) HXL.out).trans (cell_blk HXA.out rfl)
                clear hdep ho hJ
                try simp only [fill, slotOf, List.size_toArray, List.length_cons, List.length_nil, Nat.reduceAdd, List.getElem?_toArray, List.getElem?_cons_zero, List.getElem?_cons_succ, Option.bind_some, Act.put, List.setIfInBounds_toArray, List.set_cons_zero, List.set_cons_succ] at hK ⊢
                rw [d7] at hK ⊢
                go_simp
                exact hK (.agg #[.string x0, .int .i64 x1, .string x2, .int .i64 x3, .int .i64 x4, .int .i64 x5, .int .i64 x6, .int .u32 x7, .int .i64 x8]) _ HJ.out rfl (fun j y h => h) _ rfl
              · obtain rfl := Option.some.inj ho.symm
                have d8 : V 8 = .func (.func 38) #[] #[] := hdep ⟨8, .data⟩ (by simp) rfl
                have d13 : V 13 = .agg #[.string y0, .int .i64 y1, .string y2, .int .i64 y3, .int .i64 y4, .int .i64 y5, .int .i64 y6, .int .u32 y7, .int .i64 y8] := hdep ⟨13, .data⟩ (by simp) rfl
                have d14 : V 14 = .agg #[.string x0, .int .i64 x1, .string x2, .int .i64 x3, .int .i64 x4, .int .i64 x5, .int .i64 x6, .int .u32 x7, .int .i64 x8] := hdep ⟨14, .data⟩ (by simp) rfl
                have d7 : V 7 = .bool true := hdep ⟨7, .guard⟩ (by simp) rfl
                clear hdep ho hJ
                try simp only [fill, slotOf, List.size_toArray, List.length_cons, List.length_nil, Nat.reduceAdd, List.getElem?_toArray, List.getElem?_cons_zero, List.getElem?_cons_succ, Option.bind_some, Act.put, List.setIfInBounds_toArray, List.set_cons_zero, List.set_cons_succ] at hK ⊢
                rw [d8, d13, d14, d7] at hK ⊢
                go_simp
                refine (HCM.out w9).mono ?_
                rintro e w8 ⟨rfl, hb8⟩
                exact hK (.int .i64 zz) _ (HJ.out.trans (hb8.mono HJ.out.size)) rfl (FV.mono ((fun _ _ _ => trivial) hb8)) _ rfl
              · obtain rfl := Option.some.inj ho.symm
                have d15 : V 15 = .int .i64 zz := hdep ⟨15, .data⟩ (by simp) rfl
                have d7 : V 7 = .bool true := hdep ⟨7, .guard⟩ (by simp) rfl
                have hz9 : decide (zz ≥ 0) = true := HZ.out
                clear hdep ho hJ
                try simp only [fill, slotOf, List.size_toArray, List.length_cons, List.length_nil, Nat.reduceAdd, List.getElem?_toArray, List.getElem?_cons_zero, List.getElem?_cons_succ, Option.bind_some, Act.put, List.setIfInBounds_toArray, List.set_cons_zero, List.set_cons_succ] at hK ⊢
                rw [d15, d7] at hK ⊢
                go_simp
                exact hK (.bool true) _ HJ.out rfl (fun j y h => h) _ rfl
              · obtain rfl := Option.some.inj ho.symm
                have d7 : V 7 = .bool true := hdep ⟨7, .data⟩ (by simp) rfl
                have d16 : V 16 = .bool true := hdep ⟨16, .data⟩ (by simp) rfl
                have d4 : V 4 = .bool false := hdep ⟨4, .guard⟩ (by simp) rfl
                clear hdep ho hJ
                try simp only [fill, slotOf, List.size_toArray, List.length_cons, List.length_nil, Nat.reduceAdd, List.getElem?_toArray, List.getElem?_cons_zero, List.getElem?_cons_succ, Option.bind_some, Act.put, List.setIfInBounds_toArray, List.set_cons_zero, List.set_cons_succ] at hK ⊢
                rw [d7, d16, d4] at hK ⊢
                go_simp
                exact hK (.bool true) _ HJ.out rfl (fun j y h => h) _ rfl
              · obtain rfl := Option.some.inj ho.symm
                have d4 : V 4 = .bool false := hdep ⟨4, .data⟩ (by simp) rfl
                have d17 : V 17 = .bool true := hdep ⟨17, .data⟩ (by simp) rfl
                clear hdep ho hJ
                try simp only [fill, slotOf, List.size_toArray, List.length_cons, List.length_nil, Nat.reduceAdd, List.getElem?_toArray, List.getElem?_cons_zero, List.getElem?_cons_succ, Option.bind_some, Act.put, List.setIfInBounds_toArray, List.set_cons_zero, List.set_cons_succ] at hK ⊢
                rw [d4, d17] at hK ⊢
                go_simp
                exact hK (.bool true) _ HJ.out rfl (fun j y h => h) _ rfl
            · intro V w9 hJ hall
              have dL : V 18 = .bool true := hall 18 (by decide)
              have HJ9 := Lib.hid hJ
              clear hall hJ
              simp only [fill, slotOf, List.size_toArray, List.length_cons, List.length_nil, Nat.reduceAdd, List.getElem?_toArray, List.getElem?_cons_zero, List.getElem?_cons_succ, Option.bind_some, Act.put, List.setIfInBounds_toArray, List.set_cons_zero, List.set_cons_succ]
              rw [dL]
              clear dL
              have HBZ := Lib.hid (HAL.out.trans (HJ9.out.mono HAL.out.size))
              go_wp2_with fail
              go_ret
              exact ⟨HNO.out, HBZ.out⟩
          · have HZ := Lib.hid (show decide (zz ≥ 0) = false from decide_eq_false hge)
            have HOK2 := Lib.hid (HOK.out.succ (by rw [← HSE.out, ← HBX.out]) (fun _ => by rw [← HSE.out, ← HRE.out]; show cmpS y0 x0 < 0; rw [← hzz]; omega))
            clear hbx hzz hge
            refine wp_region_fill (by kernel_rfl) (by kernel_rfl) (by kernel_rfl) (Below (wr.alloc (.cells #[.string x0, .int .i64 x1, .string x2, .int .i64 x3, .int .i64 x4, .int .i64 x5, .int .i64 x6, .int .u32 x7, .int .i64 x8] 53)).heap.size (wr.alloc (.cells #[.string x0, .int .i64 x1, .string x2, .int .i64 x3, .int .i64 x4, .int .i64 x5, .int .i64 x6, .int .u32 x7, .int .i64 x8] 53))) (FV (fun j_9 => match j_9 with | 0 => some (.func (.func 35) #[] #[.pointer (some ⟨mb, 0, none⟩)]) | 1 => some (.agg #[.string x0, .int .i64 x1, .string x2, .int .i64 x3, .int .i64 x4, .int .i64 x5, .int .i64 x6, .int .u32 x7, .int .i64 x8]) | 2 => some (.bool true) | 3 => some (.bool false) | 4 => some (.bool false) | 5 => some (.int .i64 ((j : Int) + 1)) | 6 => some (.bool true) | 7 => some (.bool true) | 8 => some (.func (.func 38) #[] #[]) | 9 => some (.slice (some ⟨sb, so, none⟩) n c) | 10 => some (.int .i64 ((j : Int) + 1)) | 11 => some (.int .i64 (j : Int)) | 12 => some (.pointer (some ⟨sb, so + j * 9, none⟩)) | 13 => some (.agg #[.string y0, .int .i64 y1, .string y2, .int .i64 y3, .int .i64 y4, .int .i64 y5, .int .i64 y6, .int .u32 y7, .int .i64 y8]) | 14 => some (.agg #[.string x0, .int .i64 x1, .string x2, .int .i64 x3, .int .i64 x4, .int .i64 x5, .int .i64 x6, .int .u32 x7, .int .i64 x8]) | 15 => some (.int .i64 zz) | 16 => some (.bool false) | 17 => some (.bool false) | 18 => some (.bool false) | _ => none) (fun _ _ => True)) (Below.refl _ _).drew ?_ ?_
            · intro i9 o ho V w9 K hJ hdep hK
              have HJ := Lib.hid hJ
              simp only [fill, slotOf, List.size_toArray, List.length_cons, List.length_nil, Nat.reduceAdd, List.getElem?_toArray, List.getElem?_cons_zero, List.getElem?_cons_succ, Option.bind_some, Act.put, List.setIfInBounds_toArray, List.set_cons_zero, List.set_cons_succ] at hK ⊢
              have hin : i9 < 19 := (Array.getElem?_eq_some_iff.1 ho).1
              have hcs : i9 = 0 ∨ i9 = 1 ∨ i9 = 2 ∨ i9 = 3 ∨ i9 = 4 ∨ i9 = 5 ∨ i9 = 6 ∨ i9 = 7 ∨ i9 = 8 ∨ i9 = 9 ∨ i9 = 10 ∨ i9 = 11 ∨ i9 = 12 ∨ i9 = 13 ∨ i9 = 14 ∨ i9 = 15 ∨ i9 = 16 ∨ i9 = 17 ∨ i9 = 18 := by omega
              clear hin
              rcases hcs with rfl | rfl | rfl | rfl | rfl | rfl | rfl | rfl | rfl | rfl | rfl | rfl | rfl | rfl | rfl | rfl | rfl | rfl | rfl
              · obtain rfl := Option.some.inj ho.symm
                clear hdep ho hJ
                try simp only [fill, slotOf, List.size_toArray, List.length_cons, List.length_nil, Nat.reduceAdd, List.getElem?_toArray, List.getElem?_cons_zero, List.getElem?_cons_succ, Option.bind_some, Act.put, List.setIfInBounds_toArray, List.set_cons_zero, List.set_cons_succ] at hK ⊢
                go_simp
                exact hK (.func (.func 35) #[] #[.pointer (some ⟨mb, 0, none⟩)]) _ HJ.out rfl (fun j y h => h) _ rfl
              · obtain rfl := Option.some.inj ho.symm
                have e0 : w9.cell? ⟨wr.heap.size, 0, none⟩ = some (.string x0) := (hJ.cell (p := ⟨wr.heap.size, 0, none⟩) HXL.out).trans (cell_blk HXA.out rfl)
                have e1 : w9.cell? ⟨wr.heap.size, 1, none⟩ = some (.int .i64 x1) := (hJ.cell (p := ⟨wr.heap.size, 1, none⟩) HXL.out).trans (cell_blk HXA.out rfl)
                have e2 : w9.cell? ⟨wr.heap.size, 2, none⟩ = some (.string x2) := (hJ.cell (p := ⟨wr.heap.size, 2, none⟩) HXL.out).trans (cell_blk HXA.out rfl)
                have e3 : w9.cell? ⟨wr.heap.size, 3, none⟩ = some (.int .i64 x3) := (hJ.cell (p := ⟨wr.heap.size, 3, none⟩) HXL.out).trans (cell_blk HXA.out rfl)
                have e4 : w9.cell? ⟨wr.heap.size, 4, none⟩ = some (.int .i64 x4) := (hJ.cell (p := ⟨wr.heap.size, 4, none⟩) HXL.out).trans (cell_blk HXA.out rfl)
                have e5 : w9.cell? ⟨wr.heap.size, 5, none⟩ = some (.int .i64 x5) := (hJ.cell (p := ⟨wr.heap.size, 5, none⟩) HXL.out).trans (cell_blk HXA.out rfl)
                have e6 : w9.cell? ⟨wr.heap.size, 6, none⟩ = some (.int .i64 x6) := (hJ.cell (p := ⟨wr.heap.size, 6, none⟩) HXL.out).trans (cell_blk HXA.out rfl)
                have e7 : w9.cell? ⟨wr.heap.size, 7, none⟩ = some (.int .u32 x7) := (hJ.cell (p := ⟨wr.heap.size, 7, none⟩) HXL.out).trans (cell_blk HXA.out rfl)
                have e8 : w9.cell? ⟨wr.heap.size, 8, none⟩ = some (.int .i64 x8) := (hJ.cell (p := ⟨wr.heap.size, 8, none⟩) HXL.out).trans (cell_blk HXA.out rfl)
                clear hdep ho hJ
                try simp only [fill, slotOf, List.size_toArray, List.length_cons, List.length_nil, Nat.reduceAdd, List.getElem?_toArray, List.getElem?_cons_zero, List.getElem?_cons_succ, Option.bind_some, Act.put, List.setIfInBounds_toArray, List.set_cons_zero, List.set_cons_succ] at hK ⊢
                go_simp
                exact hK (.agg #[.string x0, .int .i64 x1, .string x2, .int .i64 x3, .int .i64 x4, .int .i64 x5, .int .i64 x6, .int .u32 x7, .int .i64 x8]) _ HJ.out rfl (fun j y h => h) _ rfl
              · obtain rfl := Option.some.inj ho.symm
                have d0 : V 0 = .func (.func 35) #[] #[.pointer (some ⟨mb, 0, none⟩)] := hdep ⟨0, .data⟩ (by simp) rfl
                have d1 : V 1 = .agg #[.string x0, .int .i64 x1, .string x2, .int .i64 x3, .int .i64 x4, .int .i64 x5, .int .i64 x6, .int .u32 x7, .int .i64 x8] := hdep ⟨1, .data⟩ (by simp) rfl
                clear hdep ho hJ
                try simp only [fill, slotOf, List.size_toArray, List.length_cons, List.length_nil, Nat.reduceAdd, List.getElem?_toArray, List.getElem?_cons_zero, List.getElem?_cons_succ, Option.bind_some, Act.put, List.setIfInBounds_toArray, List.set_cons_zero, List.set_cons_succ] at hK ⊢
                rw [d0, d1] at hK ⊢
                go_simp
                refine (HRX.out w9 HJ.out).mono ?_
                rintro e w8 ⟨rfl, hb8⟩
                exact hK (.bool true) _ (HJ.out.trans (hb8.mono HJ.out.size)) rfl (FV.mono ((fun _ _ _ => trivial) hb8)) _ rfl
              · obtain rfl := Option.some.inj ho.symm
                have d2 : V 2 = .bool true := hdep ⟨2, .data⟩ (by simp) rfl
                clear hdep ho hJ
                try simp only [fill, slotOf, List.size_toArray, List.length_cons, List.length_nil, Nat.reduceAdd, List.getElem?_toArray, List.getElem?_cons_zero, List.getElem?_cons_succ, Option.bind_some, Act.put, List.setIfInBounds_toArray, List.set_cons_zero, List.set_cons_succ] at hK ⊢
                rw [d2] at hK ⊢
                go_simp
                exact hK (.bool false) _ HJ.out rfl (fun j y h => h) _ rfl
              · obtain rfl := Option.some.inj ho.symm
                have d3 : V 3 = .bool false := hdep ⟨3, .data⟩ (by simp) rfl
                clear hdep ho hJ
                try simp only [fill, slotOf, List.size_toArray, List.length_cons, List.length_nil, Nat.reduceAdd, List.getElem?_toArray, List.getElem?_cons_zero, List.getElem?_cons_succ, Option.bind_some, Act.put, List.setIfInBounds_toArray, List.set_cons_zero, List.set_cons_succ] at hK ⊢
                rw [d3] at hK ⊢
                go_simp
                exact hK (.bool false) _ HJ.out rfl (fun j y h => h) _ rfl
              · obtain rfl := Option.some.inj ho.symm
                have d4 : V 4 = .bool false := hdep ⟨4, .guard⟩ (by simp) rfl
                clear hdep ho hJ
                try simp only [fill, slotOf, List.size_toArray, List.length_cons, List.length_nil, Nat.reduceAdd, List.getElem?_toArray, List.getElem?_cons_zero, List.getElem?_cons_succ, Option.bind_some, Act.put, List.setIfInBounds_toArray, List.set_cons_zero, List.set_cons_succ] at hK ⊢
                rw [d4] at hK ⊢
                go_simp
                exact hK (.int .i64 ((j : Int) + 1)) _ HJ.out rfl (fun j y h => h) _ rfl
              · obtain rfl := Option.some.inj ho.symm
                have d5 : V 5 = .int .i64 ((j : Int) + 1) := hdep ⟨5, .data⟩ (by simp) rfl
                have d4 : V 4 = .bool false := hdep ⟨4, .guard⟩ (by simp) rfl
                have hk9 : decide ((j : Int) + 1 > 0) = true := decide_eq_true (by omega)
                clear hdep ho hJ
                try simp only [fill, slotOf, List.size_toArray, List.length_cons, List.length_nil, Nat.reduceAdd, List.getElem?_toArray, List.getElem?_cons_zero, List.getElem?_cons_succ, Option.bind_some, Act.put, List.setIfInBounds_toArray, List.set_cons_zero, List.set_cons_succ] at hK ⊢
                rw [d5, d4] at hK ⊢
                go_simp
                exact hK (.bool true) _ HJ.out rfl (fun j y h => h) _ rfl
              · obtain rfl := Option.some.inj ho.symm
                have d6 : V 6 = .bool true := hdep ⟨6, .data⟩ (by simp) rfl
                have d4 : V 4 = .bool false := hdep ⟨4, .guard⟩ (by simp) rfl
                clear hdep ho hJ
                try simp only [fill, slotOf, List.size_toArray, List.length_cons, List.length_nil, Nat.reduceAdd, List.getElem?_toArray, List.getElem?_cons_zero, List.getElem?_cons_succ, Option.bind_some, Act.put, List.setIfInBounds_toArray, List.set_cons_zero, List.set_cons_succ] at hK ⊢
                rw [d6, d4] at hK ⊢
                go_simp
                exact hK (.bool true) _ HJ.out rfl (fun j y h => h) _ rfl
              · obtain rfl := Option.some.inj ho.symm
                have d7 : V 7 = .bool true := hdep ⟨7, .guard⟩ (by simp) rfl
                clear hdep ho hJ
                try simp only [fill, slotOf, List.size_toArray, List.length_cons, List.length_nil, Nat.reduceAdd, List.getElem?_toArray, List.getElem?_cons_zero, List.getElem?_cons_succ, Option.bind_some, Act.put, List.setIfInBounds_toArray, List.set_cons_zero, List.set_cons_succ] at hK ⊢
                rw [d7] at hK ⊢
                go_simp
                exact hK (.func (.func 38) #[] #[]) _ HJ.out rfl (fun j y h => h) _ rfl
              · obtain rfl := Option.some.inj ho.symm
                have d7 : V 7 = .bool true := hdep ⟨7, .guard⟩ (by simp) rfl
                clear hdep ho hJ
                try simp only [fill, slotOf, List.size_toArray, List.length_cons, List.length_nil, Nat.reduceAdd, List.getElem?_toArray, List.getElem?_cons_zero, List.getElem?_cons_succ, Option.bind_some, Act.put, List.setIfInBounds_toArray, List.set_cons_zero, List.set_cons_succ] at hK ⊢
                rw [d7] at hK ⊢
                go_simp
                exact hK (.slice (some ⟨sb, so, none⟩) n c) _ HJ.out rfl (fun j y h => h) _ rfl
              · obtain rfl := Option.some.inj ho.symm
                have d7 : V 7 = .bool true := hdep ⟨7, .guard⟩ (by simp) rfl
                clear hdep ho hJ
                try simp only [fill, slotOf, List.size_toArray, List.length_cons, List.length_nil, Nat.reduceAdd, List.getElem?_toArray, List.getElem?_cons_zero, List.getElem?_cons_succ, Option.bind_some, Act.put, List.setIfInBounds_toArray, List.set_cons_zero, List.set_cons_succ] at hK ⊢
                rw [d7] at hK ⊢
                go_simp
                exact hK (.int .i64 ((j : Int) + 1)) _ HJ.out rfl (fun j y h => h) _ rfl
              · obtain rfl := Option.some.inj ho.symm
                have d10 : V 10 = .int .i64 ((j : Int) + 1) := hdep ⟨10, .data⟩ (by simp) rfl
                have d7 : V 7 = .bool true := hdep ⟨7, .guard⟩ (by simp) rfl
                have hw1 : IntKind.i64.wrap (j : Int) = (j : Int) := IntWalk.i64_in _ (by omega)
                have hw2 : IntKind.i64.wrap ((j : Int) + 1 - 1) = (j : Int) := by rw [Int.add_sub_cancel]; exact hw1
                clear hdep ho hJ
                try simp only [fill, slotOf, List.size_toArray, List.length_cons, List.length_nil, Nat.reduceAdd, List.getElem?_toArray, List.getElem?_cons_zero, List.getElem?_cons_succ, Option.bind_some, Act.put, List.setIfInBounds_toArray, List.set_cons_zero, List.set_cons_succ] at hK ⊢
                rw [d10, d7] at hK ⊢
                go_simp
                exact hK (.int .i64 (j : Int)) _ HJ.out rfl (fun j y h => h) _ rfl
              · obtain rfl := Option.some.inj ho.symm
                have d9 : V 9 = .slice (some ⟨sb, so, none⟩) n c := hdep ⟨9, .data⟩ (by simp) rfl
                have d11 : V 11 = .int .i64 (j : Int) := hdep ⟨11, .data⟩ (by simp) rfl
                have d7 : V 7 = .bool true := hdep ⟨7, .guard⟩ (by simp) rfl
                have hjn : j < n := by omega
                have hjn2 : (j : Int) < (n : Int) := by omega
                clear hdep ho hJ
                try simp only [fill, slotOf, List.size_toArray, List.length_cons, List.length_nil, Nat.reduceAdd, List.getElem?_toArray, List.getElem?_cons_zero, List.getElem?_cons_succ, Option.bind_some, Act.put, List.setIfInBounds_toArray, List.set_cons_zero, List.set_cons_succ] at hK ⊢
                rw [d9, d11, d7] at hK ⊢
                go_simp
                exact hK (.pointer (some ⟨sb, so + j * 9, none⟩)) _ HJ.out rfl (fun j y h => h) _ rfl
              · obtain rfl := Option.some.inj ho.symm
                have d12 : V 12 = .pointer (some ⟨sb, so + j * 9, none⟩) := hdep ⟨12, .data⟩ (by simp) rfl
                have d7 : V 7 = .bool true := hdep ⟨7, .guard⟩ (by simp) rfl
                have u0 : w9.cell? ⟨sb, so + j * 9, none⟩ = some (.string y0) := (hJ.cell (p := ⟨sb, so + j * 9 + 0, none⟩) HSL.out).trans (HSY.out 0 _ rfl)
                have u1 : w9.cell? ⟨sb, so + j * 9 + 1, none⟩ = some (.int .i64 y1) := (hJ.cell (p := ⟨sb, so + j * 9 + 1, none⟩) HSL.out).trans (HSY.out 1 _ rfl)
                have u2 : w9.cell? ⟨sb, so + j * 9 + 2, none⟩ = some (.string y2) := (hJ.cell (p := ⟨sb, so + j * 9 + 2, none⟩) HSL.out).trans (HSY.out 2 _ rfl)
                have u3 : w9.cell? ⟨sb, so + j * 9 + 3, none⟩ = some (.int .i64 y3) := (hJ.cell (p := ⟨sb, so + j * 9 + 3, none⟩) HSL.out).trans (HSY.out 3 _ rfl)
                have u4 : w9.cell? ⟨sb, so + j * 9 + 4, none⟩ = some (.int .i64 y4) := (hJ.cell (p := ⟨sb, so + j * 9 + 4, none⟩) HSL.out).trans (HSY.out 4 _ rfl)
                have u5 : w9.cell? ⟨sb, so + j * 9 + 5, none⟩ = some (.int .i64 y5) := (hJ.cell (p := ⟨sb, so + j * 9 + 5, none⟩) HSL.out).trans (HSY.out 5 _ rfl)
                have u6 : w9.cell? ⟨sb, so + j * 9 + 6, none⟩ = some (.int .i64 y6) := (hJ.cell (p := ⟨sb, so + j * 9 + 6, none⟩) HSL.out).trans (HSY.out 6 _ rfl)
                have u7 : w9.cell? ⟨sb, so + j * 9 + 7, none⟩ = some (.int .u32 y7) := (hJ.cell (p := ⟨sb, so + j * 9 + 7, none⟩) HSL.out).trans (HSY.out 7 _ rfl)
                have u8 : w9.cell? ⟨sb, so + j * 9 + 8, none⟩ = some (.int .i64 y8) := (hJ.cell (p := ⟨sb, so + j * 9 + 8, none⟩) HSL.out).trans (HSY.out 8 _ rfl)
                clear hdep ho hJ
                try simp only [fill, slotOf, List.size_toArray, List.length_cons, List.length_nil, Nat.reduceAdd, List.getElem?_toArray, List.getElem?_cons_zero, List.getElem?_cons_succ, Option.bind_some, Act.put, List.setIfInBounds_toArray, List.set_cons_zero, List.set_cons_succ] at hK ⊢
                rw [d12, d7] at hK ⊢
                go_simp
                exact hK (.agg #[.string y0, .int .i64 y1, .string y2, .int .i64 y3, .int .i64 y4, .int .i64 y5, .int .i64 y6, .int .u32 y7, .int .i64 y8]) _ HJ.out rfl (fun j y h => h) _ rfl
              · obtain rfl := Option.some.inj ho.symm
                have d7 : V 7 = .bool true := hdep ⟨7, .guard⟩ (by simp) rfl
                have e0 : w9.cell? ⟨wr.heap.size, 0, none⟩ = some (.string x0) := (hJ.cell (p := ⟨wr.heap.size, 0, none⟩) HXL.out).trans (cell_blk HXA.out rfl)
                have e1 : w9.cell? ⟨wr.heap.size, 1, none⟩ = some (.int .i64 x1) := (hJ.cell (p := ⟨wr.heap.size, 1, none⟩) HXL.out).trans (cell_blk HXA.out rfl)
                have e2 : w9.cell? ⟨wr.heap.size, 2, none⟩ = some (.string x2) := (hJ.cell (p := ⟨wr.heap.size, 2, none⟩) HXL.out).trans (cell_blk HXA.out rfl)
                have e3 : w9.cell? ⟨wr.heap.size, 3, none⟩ = some (.int .i64 x3) := (hJ.cell (p := ⟨wr.heap.size, 3, none⟩) HXL.out).trans (cell_blk HXA.out rfl)
                have e4 : w9.cell? ⟨wr.heap.size, 4, none⟩ = some (.int .i64 x4) := (hJ.cell (p := ⟨wr.heap.size, 4, none⟩) HXL.out).trans (cell_blk HXA.out rfl)
                have e5 : w9.cell? ⟨wr.heap.size, 5, none⟩ = some (.int .i64 x5) := (hJ.cell (p := ⟨wr.heap.size, 5, none⟩) HXL.out).trans (cell_blk HXA.out rfl)
                have e6 : w9.cell? ⟨wr.heap.size, 6, none⟩ = some (.int .i64 x6) := (hJ.cell (p := ⟨wr.heap.size, 6, none⟩) HXL.out).trans (cell_blk HXA.out rfl)
                have e7 : w9.cell? ⟨wr.heap.size, 7, none⟩ = some (.int .u32 x7) := (hJ.cell (p := ⟨wr.heap.size, 7, none⟩) HXL.out).trans (cell_blk HXA.out rfl)
                have e8 : w9.cell? ⟨wr.heap.size, 8, none⟩ = some (.int .i64 x8) := (hJ.cell (p := ⟨wr.heap.size, 8, none⟩) HXL.out).trans (cell_blk HXA.out rfl)
                clear hdep ho hJ
                try simp only [fill, slotOf, List.size_toArray, List.length_cons, List.length_nil, Nat.reduceAdd, List.getElem?_toArray, List.getElem?_cons_zero, List.getElem?_cons_succ, Option.bind_some, Act.put, List.setIfInBounds_toArray, List.set_cons_zero, List.set_cons_succ] at hK ⊢
                rw [d7] at hK ⊢
                go_simp
                exact hK (.agg #[.string x0, .int .i64 x1, .string x2, .int .i64 x3, .int .i64 x4, .int .i64 x5, .int .i64 x6, .int .u32 x7, .int .i64 x8]) _ HJ.out rfl (fun j y h => h) _ rfl
              · obtain rfl := Option.some.inj ho.symm
                have d8 : V 8 = .func (.func 38) #[] #[] := hdep ⟨8, .data⟩ (by simp) rfl
                have d13 : V 13 = .agg #[.string y0, .int .i64 y1, .string y2, .int .i64 y3, .int .i64 y4, .int .i64 y5, .int .i64 y6, .int .u32 y7, .int .i64 y8] := hdep ⟨13, .data⟩ (by simp) rfl
                have d14 : V 14 = .agg #[.string x0, .int .i64 x1, .string x2, .int .i64 x3, .int .i64 x4, .int .i64 x5, .int .i64 x6, .int .u32 x7, .int .i64 x8] := hdep ⟨14, .data⟩ (by simp) rfl
                have d7 : V 7 = .bool true := hdep ⟨7, .guard⟩ (by simp) rfl
                clear hdep ho hJ
                try simp only [fill, slotOf, List.size_toArray, List.length_cons, List.length_nil, Nat.reduceAdd, List.getElem?_toArray, List.getElem?_cons_zero, List.getElem?_cons_succ, Option.bind_some, Act.put, List.setIfInBounds_toArray, List.set_cons_zero, List.set_cons_succ] at hK ⊢
                rw [d8, d13, d14, d7] at hK ⊢
                go_simp
                refine (HCM.out w9).mono ?_
                rintro e w8 ⟨rfl, hb8⟩
                exact hK (.int .i64 zz) _ (HJ.out.trans (hb8.mono HJ.out.size)) rfl (FV.mono ((fun _ _ _ => trivial) hb8)) _ rfl
              · obtain rfl := Option.some.inj ho.symm
                have d15 : V 15 = .int .i64 zz := hdep ⟨15, .data⟩ (by simp) rfl
                have d7 : V 7 = .bool true := hdep ⟨7, .guard⟩ (by simp) rfl
                have hz9 : decide (zz ≥ 0) = false := HZ.out
                clear hdep ho hJ
                try simp only [fill, slotOf, List.size_toArray, List.length_cons, List.length_nil, Nat.reduceAdd, List.getElem?_toArray, List.getElem?_cons_zero, List.getElem?_cons_succ, Option.bind_some, Act.put, List.setIfInBounds_toArray, List.set_cons_zero, List.set_cons_succ] at hK ⊢
                rw [d15, d7] at hK ⊢
                go_simp
                exact hK (.bool false) _ HJ.out rfl (fun j y h => h) _ rfl
              · obtain rfl := Option.some.inj ho.symm
                have d7 : V 7 = .bool true := hdep ⟨7, .data⟩ (by simp) rfl
                have d16 : V 16 = .bool false := hdep ⟨16, .data⟩ (by simp) rfl
                have d4 : V 4 = .bool false := hdep ⟨4, .guard⟩ (by simp) rfl
                clear hdep ho hJ
                try simp only [fill, slotOf, List.size_toArray, List.length_cons, List.length_nil, Nat.reduceAdd, List.getElem?_toArray, List.getElem?_cons_zero, List.getElem?_cons_succ, Option.bind_some, Act.put, List.setIfInBounds_toArray, List.set_cons_zero, List.set_cons_succ] at hK ⊢
                rw [d7, d16, d4] at hK ⊢
                go_simp
                exact hK (.bool false) _ HJ.out rfl (fun j y h => h) _ rfl
              · obtain rfl := Option.some.inj ho.symm
                have d4 : V 4 = .bool false := hdep ⟨4, .data⟩ (by simp) rfl
                have d17 : V 17 = .bool false := hdep ⟨17, .data⟩ (by simp) rfl
                clear hdep ho hJ
                try simp only [fill, slotOf, List.size_toArray, List.length_cons, List.length_nil, Nat.reduceAdd, List.getElem?_toArray, List.getElem?_cons_zero, List.getElem?_cons_succ, Option.bind_some, Act.put, List.setIfInBounds_toArray, List.set_cons_zero, List.set_cons_succ] at hK ⊢
                rw [d4, d17] at hK ⊢
                go_simp
                exact hK (.bool false) _ HJ.out rfl (fun j y h => h) _ rfl
            · intro V w9 hJ hall
              have dL : V 18 = .bool false := hall 18 (by decide)
              have HJ9 := Lib.hid hJ
              clear hall hJ
              simp only [fill, slotOf, List.size_toArray, List.length_cons, List.length_nil, Nat.reduceAdd, List.getElem?_toArray, List.getElem?_cons_zero, List.getElem?_cons_succ, Option.bind_some, Act.put, List.setIfInBounds_toArray, List.set_cons_zero, List.set_cons_succ]
              rw [dL]
              clear dL
              have HBZ := Lib.hid (HAL.out.trans (HJ9.out.mono HAL.out.size))
              go_wp2_with fail
              go_roundw
              case rel => exact ⟨j + 1 + 1, by omega, by go_num, HOK2, HBZ⟩
              case measure => simp [intOf]; omega
    · obtain rfl : k = n := by omega
      have HY := Lib.hid (RisIs.yes HOK.out)
      clear hkn
      go_wp2_with fail
      go_ret
      exact ⟨HY.out, HB.out⟩

end Go.Proofs.YtbdgcfimbblncaaGreatDoor
end PkMB5_0
section PkMB5_1
/- Manifests: keys: which texts are one; package manifest's isKey, walked. -/
namespace Go.Proofs.YtbdgcfimbblncaaGreatDoor
open Go.RowKit LabPlain
set_option linter.unusedVariables false

def allK (s : ByteArray) : Nat → Bool
  | 0 => true
  | k + 1 => allK s k && (decide (33 ≤ at_ s k) && decide (at_ s k ≤ 126))
theorem allK_no {s : ByteArray} {k : Nat} (h : (decide (33 ≤ at_ s k) && decide (at_ s k ≤ 126)) = false) : ∀ m, allK s (k + 1 + m) = false
  | 0 => by show (allK s k && _) = false; rw [h, Bool.and_false]
  | m + 1 => by show (allK s (k + 1 + m) && _) = false; rw [allK_no h m, Bool.false_and]
def keyB (s : ByteArray) : Bool := decide (1 ≤ s.size) && (decide (s.size ≤ 40) && allK s s.size)
set_option maxRecDepth 100000 in
set_option maxHeartbeats 1000000 in
theorem iskey_any (s : ByteArray) (hs : s.size ≤ 9223372036854775807) (w : World) :
    Calls Tryz.prog 83 #[.string s] w fun e w' => e = .returned (.bool (keyB s)) ∧ w' = w := by
  by_cases h1 : s.size < 1
  · have hR := Lib.hid (show keyB s = false by unfold keyB; simp [show ¬ 1 ≤ s.size by omega])
    have h1i : (s.size : Int) < 1 := by omega
    clear h1
    go_enter Tryz.func83, Tryz.ntmps83
    go_wp2_with fail
    go_ret
    rw [hR.out]; exact ⟨rfl, rfl⟩
  · by_cases h8 : 40 < s.size
    · have hR := Lib.hid (show keyB s = false by unfold keyB; simp [show ¬ s.size ≤ 40 by omega])
      have h1i : (1 : Int) ≤ (s.size : Int) := by omega
      have h8i : (40 : Int) < (s.size : Int) := by omega
      clear h1 h8
      go_enter Tryz.func83, Tryz.ntmps83
      go_wp2_with fail
      go_ret
      rw [hR.out]; exact ⟨rfl, rfl⟩
    · have h1i : (1 : Int) ≤ (s.size : Int) := by omega
      have h8i : (s.size : Int) ≤ 40 := by omega
      have hR := Lib.hid (show keyB s = allK s s.size by unfold keyB; rw [decide_eq_true (show 1 ≤ s.size by omega), decide_eq_true (show s.size ≤ 40 by omega)]; rfl)
      clear h1 h8
      go_enter Tryz.func83, Tryz.ntmps83
      go_wp2_with fail
      go_loop [3, 14] (fun _ s14 => ∃ k : Nat, k ≤ s.size ∧ s14 = .int .i64 (k : Int) ∧ Hid (allK s k = true)) (fun _ s14 => s.size - (intOf s14).toNat)
      case atStart => exact ⟨0, by omega, rfl, Lib.hid rfl⟩
      case round =>
        obtain ⟨k, hk, rfl, HA⟩ := hrel
        by_cases hks : k < s.size
        · obtain ⟨c, hc⟩ : ∃ c, c = at_ s k := ⟨_, rfl⟩
          have hsk : (s[k]'hks).toNat = c := by rw [hc, at_get s k hks]
          have hcl : c < 256 := by rw [hc]; exact at_lt s k
          have HCK := Lib.hid hc
          have HNO := Lib.hid (show (decide (33 ≤ c) && decide (c ≤ 126)) = false → keyB s = false from fun hb => by
            rw [hR.out]
            have := allK_no (s := s) (k := k) (by rw [← hc]; exact hb) (s.size - (k + 1))
            rw [show k + 1 + (s.size - (k + 1)) = s.size from by omega] at this
            exact this)
          clear hc
          by_cases h33 : c < 33
          · have h33i : (c : Int) < 33 := by omega
            have HF := Lib.hid (HNO.out (by simp [show ¬ 33 ≤ c by omega]))
            clear h33
            go_wp2_with fail
            go_ret
            rw [HF.out]; exact ⟨rfl, rfl⟩
          · have h33i : (33 : Int) ≤ (c : Int) := by omega
            by_cases h126 : 126 < c
            · have h126i : (126 : Int) < (c : Int) := by omega
              have HF := Lib.hid (HNO.out (by simp [show ¬ c ≤ 126 by omega]))
              clear h33 h126
              go_wp2_with fail
              go_ret
              rw [HF.out]; exact ⟨rfl, rfl⟩
            · have h126i : (c : Int) ≤ 126 := by omega
              have HA2 := Lib.hid (show allK s (k + 1) = true by rw [allK, HA.out, ← HCK.out, decide_eq_true (show 33 ≤ c by omega), decide_eq_true (show c ≤ 126 by omega)]; rfl)
              clear h33 h126
              go_wp2_with fail
              go_round
              case rel => exact ⟨k + 1, by omega, by go_num, HA2⟩
              case measure => simp [intOf]; omega
        · obtain rfl : k = s.size := by omega
          have HT := Lib.hid (show keyB s = true by rw [hR.out]; exact HA.out)
          clear hks
          go_wp2_with fail
          go_ret
          rw [HT.out]; exact ⟨rfl, rfl⟩
end Go.Proofs.YtbdgcfimbblncaaGreatDoor
end PkMB5_1
section PkMB5_2
/- Manifests: which entries are right, and which manifests. Written by genmfn.py. -/
namespace Go.Proofs.YtbdgcfimbblncaaGreatDoor
open Go.RowKit LabPlain
set_option linter.unusedVariables false

def ParIs (z : Int) (e : Ending) : Prop := ∃ a n c, e = .returned (.tuple #[.slice a n c, .int .i64 z])
/-- is it an entry? (pk: its part is one) -/
def entB (x : EntV) (pk : Bool) : Bool := keyB x.key && (withinB x.win 0 1099511627775 && (pk && (decide (0 ≤ x.fst) && (decide (x.fst ≤ x.lst) && (decide (x.lst < 1099511627776) && (withinB x.rows 1 2048 && (withinB x.size 1 262144 && withinB x.born 0 1099511627775)))))))

set_option maxRecDepth 100000 in
set_option maxHeartbeats 4000000 in
theorem rightEntry_any {w : World} (pf : ByteArray → Int) (x0 : ByteArray) (x1 : Int) (x2 : ByteArray) (x3 x4 x5 x6 x7 x8 : Int) (h0 : x0.size ≤ 140737488355328) (hP : ∀ (W : World), Below w.heap.size w W → Calls Tryz.prog 82 #[.string x2] W fun e w' => ParIs (pf x2) e ∧ Below W.heap.size W w') :
    Calls Tryz.prog 36 #[.agg #[.string x0, .int .i64 x1, .string x2, .int .i64 x3, .int .i64 x4, .int .i64 x5, .int .i64 x6, .int .u32 x7, .int .i64 x8]] w fun e w' => e = .returned (.bool (entB ⟨x0, x1, x2, x3, x4, x5, x6, x7, x8⟩ (pf x2 == 0))) ∧ Below w.heap.size w w' := by
  obtain ⟨wa, hwa⟩ : ∃ wa, wa = w.alloc (.cells #[.string x0, .int .i64 x1, .string x2, .int .i64 x3, .int .i64 x4, .int .i64 x5, .int .i64 x6, .int .u32 x7, .int .i64 x8] 53) := ⟨_, rfl⟩
  have ba : Below w.heap.size w wa := by rw [hwa]; exact (Below.refl _ _).alloc (Nat.le_refl _) _
  have ga : wa.heap[w.heap.size]? = some (.cells #[.string x0, .int .i64 x1, .string x2, .int .i64 x3, .int .i64 x4, .int .i64 x5, .int .i64 x6, .int .u32 x7, .int .i64 x8] 53 (0, 0)) := by rw [hwa]; exact heap_alloc_new _ _
  have HPA := Lib.hid (hP wa ba)
  have HBA := Lib.hid ba
  have HGA := Lib.hid ga
  have HWA := Lib.hid hwa
  obtain ⟨zp, hzp⟩ : ∃ zp, zp = pf x2 := ⟨_, rfl⟩
  obtain ⟨b0, hb0⟩ : ∃ b, b = keyB x0 := ⟨_, rfl⟩
  have HK := Lib.hid (show ∀ W, Calls Tryz.prog 83 #[.string x0] W fun e w' => e = .returned (.bool b0) ∧ w' = W from fun W => by rw [hb0]; exact iskey_any x0 (by omega) W)
  obtain ⟨b1, hb1⟩ : ∃ b, b = withinB x1 0 1099511627775 := ⟨_, rfl⟩
  have HW1 := Lib.hid (show ∀ W, Calls Tryz.prog 34 #[.int .i64 x1, .int .i64 0, .int .i64 1099511627775] W fun e w' => e = .returned (.bool b1) ∧ w' = W from fun W => by rw [hb1]; exact within_any _ _ _ W)
  obtain ⟨b2, hb2⟩ : ∃ b, b = (zp == 0) := ⟨_, rfl⟩
  obtain ⟨b3, hb3⟩ : ∃ b, b = (decide (0 ≤ x3)) := ⟨_, rfl⟩
  obtain ⟨b4, hb4⟩ : ∃ b, b = (decide (x3 ≤ x4)) := ⟨_, rfl⟩
  obtain ⟨b5, hb5⟩ : ∃ b, b = (decide (x4 < 1099511627776)) := ⟨_, rfl⟩
  obtain ⟨b6, hb6⟩ : ∃ b, b = withinB x5 1 2048 := ⟨_, rfl⟩
  have HW6 := Lib.hid (show ∀ W, Calls Tryz.prog 34 #[.int .i64 x5, .int .i64 1, .int .i64 2048] W fun e w' => e = .returned (.bool b6) ∧ w' = W from fun W => by rw [hb6]; exact within_any _ _ _ W)
  obtain ⟨b7, hb7⟩ : ∃ b, b = withinB x6 1 262144 := ⟨_, rfl⟩
  have HW7 := Lib.hid (show ∀ W, Calls Tryz.prog 34 #[.int .i64 x6, .int .i64 1, .int .i64 262144] W fun e w' => e = .returned (.bool b7) ∧ w' = W from fun W => by rw [hb7]; exact within_any _ _ _ W)
  obtain ⟨b8, hb8⟩ : ∃ b, b = withinB x8 0 1099511627775 := ⟨_, rfl⟩
  have HW8 := Lib.hid (show ∀ W, Calls Tryz.prog 34 #[.int .i64 x8, .int .i64 0, .int .i64 1099511627775] W fun e w' => e = .returned (.bool b8) ∧ w' = W from fun W => by rw [hb8]; exact within_any _ _ _ W)
  have HV := Lib.hid (show entB ⟨x0, x1, x2, x3, x4, x5, x6, x7, x8⟩ (pf x2 == 0) = (b0 && (b1 && (b2 && (b3 && (b4 && (b5 && (b6 && (b7 && b8)))))))) from by rw [hb0, hb1, hb2, hb3, hb4, hb5, hb6, hb7, hb8, hzp]; rfl)
  rw [← hzp] at HPA
  have g2 := hb2.symm
  have g3 := hb3.symm
  have g4 := hb4.symm
  have g5 := hb5.symm
  have G2 := Lib.hid g2
  have G3 := Lib.hid g3
  have G4 := Lib.hid g4
  have G5 := Lib.hid g5
  clear hwa ba ga hzp hb0 hb1 hb2 hb3 hb4 hb5 hb6 hb7 hb8 h0 hP g2 g3 g4 g5
  go_enter Tryz.func36, Tryz.ntmps36
  have a2 : wa.cell? ⟨w.heap.size, 2, none⟩ = some (.string x2) := cell_blk HGA.out rfl
  go_wp2_with fail
  rw [← HWA.out]
  refine HPA.out.mono ?_
  rintro e w1 ⟨⟨ap, np, cp, rfl⟩, hb⟩
  have HB := Lib.hid (HBA.out.trans (hb.mono HBA.out.size))
  have hg1 := (hb.block w.heap.size (Array.getElem?_eq_some_iff.1 HGA.out).1).trans HGA.out
  have n0 : w1.cell? ⟨w.heap.size, 0, none⟩ = some (.string x0) := cell_blk hg1 rfl
  have n1 : w1.cell? ⟨w.heap.size, 1, none⟩ = some (.int .i64 x1) := cell_blk hg1 rfl
  have n2 : w1.cell? ⟨w.heap.size, 2, none⟩ = some (.string x2) := cell_blk hg1 rfl
  have n3 : w1.cell? ⟨w.heap.size, 3, none⟩ = some (.int .i64 x3) := cell_blk hg1 rfl
  have n4 : w1.cell? ⟨w.heap.size, 4, none⟩ = some (.int .i64 x4) := cell_blk hg1 rfl
  have n5 : w1.cell? ⟨w.heap.size, 5, none⟩ = some (.int .i64 x5) := cell_blk hg1 rfl
  have n6 : w1.cell? ⟨w.heap.size, 6, none⟩ = some (.int .i64 x6) := cell_blk hg1 rfl
  have n7 : w1.cell? ⟨w.heap.size, 7, none⟩ = some (.int .u32 x7) := cell_blk hg1 rfl
  have n8 : w1.cell? ⟨w.heap.size, 8, none⟩ = some (.int .i64 x8) := cell_blk hg1 rfl
  clear hb hg1 a2
  go_wp2_with fail
  refine (HK.out _).mono ?_
  rintro e w2 ⟨rfl, rfl⟩
  cases b0 with
  | false =>
    go_wp2_with fail
    go_ret
    exact ⟨by rw [HV.out]; rfl, HB.out⟩
  | true =>
    go_wp2_with fail
    refine (HW1.out _).mono ?_
    rintro e w2 ⟨rfl, rfl⟩
    cases b1 with
    | false =>
      go_wp2_with fail
      go_ret
      exact ⟨by rw [HV.out]; rfl, HB.out⟩
    | true =>
      cases b2 with
      | false =>
        have g2 := G2.out
        go_wp2_with fail
        go_ret
        exact ⟨by rw [HV.out]; rfl, HB.out⟩
      | true =>
        have g2 := G2.out
        cases b3 with
        | false =>
          have g3 := G3.out
          go_wp2_with fail
          go_ret
          exact ⟨by rw [HV.out]; rfl, HB.out⟩
        | true =>
          have g3 := G3.out
          cases b4 with
          | false =>
            have g4 := G4.out
            go_wp2_with fail
            go_ret
            exact ⟨by rw [HV.out]; rfl, HB.out⟩
          | true =>
            have g4 := G4.out
            cases b5 with
            | false =>
              have g5 := G5.out
              go_wp2_with fail
              go_ret
              exact ⟨by rw [HV.out]; rfl, HB.out⟩
            | true =>
              have g5 := G5.out
              go_wp2_with fail
              refine (HW6.out _).mono ?_
              rintro e w2 ⟨rfl, rfl⟩
              cases b6 with
              | false =>
                go_wp2_with fail
                go_ret
                exact ⟨by rw [HV.out]; rfl, HB.out⟩
              | true =>
                go_wp2_with fail
                refine (HW7.out _).mono ?_
                rintro e w2 ⟨rfl, rfl⟩
                cases b7 with
                | false =>
                  go_wp2_with fail
                  go_ret
                  exact ⟨by rw [HV.out]; rfl, HB.out⟩
                | true =>
                  go_wp2_with fail
                  refine (HW8.out _).mono ?_
                  rintro e w2 ⟨rfl, rfl⟩
                  cases b8 with
                  | false =>
                    go_wp2_with fail
                    go_ret
                    exact ⟨by rw [HV.out]; rfl, HB.out⟩
                  | true =>
                    go_wp2_with fail
                    go_ret
                    exact ⟨by rw [HV.out]; rfl, HB.out⟩

/-- does an entry stay? -/
def stayB (pf : ByteArray → Int) (cut : Int) (x : EntV) : Bool := entB x (pf x.part == 0) && decide (cut ≤ x.win)
set_option maxRecDepth 100000 in
set_option maxHeartbeats 4000000 in
theorem stays_any {w : World} (pf : ByteArray → Int) {mb : Nat} {cut : Int} (hmb : mb < w.heap.size) (hc : w.cell? ⟨mb, 1, none⟩ = some (.int .i64 cut)) (x0 : ByteArray) (x1 : Int) (x2 : ByteArray) (x3 x4 x5 x6 x7 x8 : Int) (h0 : x0.size ≤ 140737488355328) (hP : ∀ (W : World), Below w.heap.size w W → Calls Tryz.prog 82 #[.string x2] W fun e w' => ParIs (pf x2) e ∧ Below W.heap.size W w') :
    Calls Tryz.prog 35 #[.agg #[.string x0, .int .i64 x1, .string x2, .int .i64 x3, .int .i64 x4, .int .i64 x5, .int .i64 x6, .int .u32 x7, .int .i64 x8], .pointer (some ⟨mb, 0, none⟩)] w fun e w' => e = .returned (.bool (stayB pf cut ⟨x0, x1, x2, x3, x4, x5, x6, x7, x8⟩)) ∧ Below w.heap.size w w' := by
  obtain ⟨wa, hwa⟩ : ∃ wa, wa = w.alloc (.cells #[.string x0, .int .i64 x1, .string x2, .int .i64 x3, .int .i64 x4, .int .i64 x5, .int .i64 x6, .int .u32 x7, .int .i64 x8] 53) := ⟨_, rfl⟩
  have ba : Below w.heap.size w wa := by rw [hwa]; exact (Below.refl _ _).alloc (Nat.le_refl _) _
  have ga : wa.heap[w.heap.size]? = some (.cells #[.string x0, .int .i64 x1, .string x2, .int .i64 x3, .int .i64 x4, .int .i64 x5, .int .i64 x6, .int .u32 x7, .int .i64 x8] 53 (0, 0)) := by rw [hwa]; exact heap_alloc_new _ _
  obtain ⟨b0, hb0⟩ : ∃ b, b = entB ⟨x0, x1, x2, x3, x4, x5, x6, x7, x8⟩ (pf x2 == 0) := ⟨_, rfl⟩
  obtain ⟨b1, hb1⟩ : ∃ b, b = decide (cut ≤ x1) := ⟨_, rfl⟩
  have HRE := Lib.hid (rightEntry_any (w := wa) pf x0 x1 x2 x3 x4 x5 x6 x7 x8 h0 (fun W hB => hP W (ba.trans (hB.mono ba.size))))
  rw [← hb0] at HRE
  have HV := Lib.hid (show stayB pf cut ⟨x0, x1, x2, x3, x4, x5, x6, x7, x8⟩ = (b0 && b1) from by rw [hb0, hb1]; rfl)
  have HBA := Lib.hid ba
  have HGA := Lib.hid ga
  have HWA := Lib.hid hwa
  have HMB := Lib.hid hmb
  have HC := Lib.hid hc
  have G1 := Lib.hid hb1.symm
  clear hwa ba ga hb0 hb1 h0 hP hmb hc
  go_enter Tryz.func35, Tryz.ntmps35
  go_wp2_with fail
  rw [← HWA.out]
  refine HRE.out.mono ?_
  rintro e w1 ⟨rfl, hb⟩
  have HB := Lib.hid (HBA.out.trans (hb.mono HBA.out.size))
  have hg1 := (hb.block w.heap.size (Array.getElem?_eq_some_iff.1 HGA.out).1).trans HGA.out
  have n1 : w1.cell? ⟨w.heap.size, 1, none⟩ = some (.int .i64 x1) := cell_blk hg1 rfl
  have q1 : w1.cell? ⟨mb, 1, none⟩ = some (.int .i64 cut) := (HB.out.cell (p := ⟨mb, 1, none⟩) HMB.out).trans HC.out
  clear hb hg1
  cases b0 with
  | false =>
    go_wp2_with fail
    go_ret
    exact ⟨by rw [HV.out]; rfl, HB.out⟩
  | true =>
    cases b1 with
    | false =>
      have g1 := G1.out
      go_wp2_with fail
      go_ret
      exact ⟨by rw [HV.out]; rfl, HB.out⟩
    | true =>
      have g1 := G1.out
      go_wp2_with fail
      go_ret
      exact ⟨by rw [HV.out]; rfl, HB.out⟩

end Go.Proofs.YtbdgcfimbblncaaGreatDoor
end PkMB5_2
section PkMB5_3
/- Manifests: which are right: package manifest's Right, walked. Written by genmfp.py. -/
namespace Go.Proofs.YtbdgcfimbblncaaGreatDoor
open Go.RowKit LabPlain
set_option linter.unusedVariables false

/-- what makes a manifest right -/
def IsMan (pf : ByteArray → Int) (s d hz : Int) (en : Nat) (le : List EntV) (mn : Nat) (lm : List (Int × Int)) (on : Nat) (lo : List (Int × Int × Int)) : Prop := ((withinB s 0 1099511627775 && (withinB d 0 1099511627775 && withinB hz 0 1099511627775)) = true ∧ en ≤ 256 ∧ RisOk (stayB pf d) (fun a b => cmpS a.key b.key) EntS.z le en ∧ RisOk isMarkB (fun a b => cmp3 a.1 b.1) MarkS.z lm mn ∧ RisOk isOwnB (fun a b => cmp3 a.1 b.1) OwnS.z lo on)
def ManIs (pf : ByteArray → Int) (s d hz : Int) (en : Nat) (le : List EntV) (mn : Nat) (lm : List (Int × Int)) (on : Nat) (lo : List (Int × Int × Int)) (e : Ending) : Prop := ∃ b : Bool, e = .returned (.bool b) ∧ (b = true ↔ IsMan pf s d hz en le mn lm on lo)
theorem ManIs.no {pf : ByteArray → Int} {s d hz : Int} {en : Nat} {le : List EntV} {mn : Nat} {lm : List (Int × Int)} {on : Nat} {lo : List (Int × Int × Int)} (h : ¬ IsMan pf s d hz en le mn lm on lo) : ManIs pf s d hz en le mn lm on lo (.returned (.bool false)) := ⟨false, rfl, ⟨fun e => (by cases e), fun g => absurd g h⟩⟩
theorem ManIs.yes {pf : ByteArray → Int} {s d hz : Int} {en : Nat} {le : List EntV} {mn : Nat} {lm : List (Int × Int)} {on : Nat} {lo : List (Int × Int × Int)} (h : IsMan pf s d hz en le mn lm on lo) : ManIs pf s d hz en le mn lm on lo (.returned (.bool true)) := ⟨true, rfl, ⟨fun _ => h, fun _ => rfl⟩⟩
set_option maxRecDepth 100000 in
set_option maxHeartbeats 4000000 in
theorem mright_any {w : World} (pf : ByteArray → Int)  {s d hz : Int} {ea ma oa : Option Addr} {en ec mn mc on oc : Nat} {le : List EntV} {lm : List (Int × Int)} {lo : List (Int × Int × Int)} (hE : VecAt EntS w ea en ec le) (hM : VecAt MarkS w ma mn mc lm) (hO : VecAt OwnS w oa on oc lo) (hP : ∀ (W : World) (x : EntV), x ∈ le → Below w.heap.size w W → Calls Tryz.prog 82 #[.string x.part] W fun e w' => ParIs (pf x.part) e ∧ Below W.heap.size W w') :
    Calls Tryz.prog 11 #[.agg #[.int .i64 s, .int .i64 d, .int .i64 hz, .slice ea en ec, .slice ma mn mc, .slice oa on oc]] w fun e w' => ManIs pf s d hz en le mn lm on lo e ∧ Below w.heap.size w w' := by
  obtain ⟨wa, hwa⟩ : ∃ wa, wa = w.alloc (.cells #[.int .i64 s, .int .i64 d, .int .i64 hz, .slice ea en ec, .slice ma mn mc, .slice oa on oc] 26) := ⟨_, rfl⟩
  have ba : Below w.heap.size w wa := by rw [hwa]; exact (Below.refl _ _).alloc (Nat.le_refl _) _
  have ga : wa.heap[w.heap.size]? = some (.cells #[.int .i64 s, .int .i64 d, .int .i64 hz, .slice ea en ec, .slice ma mn mc, .slice oa on oc] 26 (0, 0)) := by rw [hwa]; exact heap_alloc_new _ _
  have hla : w.heap.size < wa.heap.size := (Array.getElem?_eq_some_iff.1 ga).1
  obtain ⟨b0, hb0⟩ : ∃ b, b = withinB s 0 1099511627775 := ⟨_, rfl⟩
  obtain ⟨b1, hb1⟩ : ∃ b, b = withinB d 0 1099511627775 := ⟨_, rfl⟩
  obtain ⟨b2, hb2⟩ : ∃ b, b = withinB hz 0 1099511627775 := ⟨_, rfl⟩
  have HW0 := Lib.hid (show ∀ W, Calls Tryz.prog 34 #[.int .i64 s, .int .i64 0, .int .i64 1099511627775] W fun e w' => e = .returned (.bool b0) ∧ w' = W from fun W => by rw [hb0]; exact within_any _ _ _ W)
  have HW1 := Lib.hid (show ∀ W, Calls Tryz.prog 34 #[.int .i64 d, .int .i64 0, .int .i64 1099511627775] W fun e w' => e = .returned (.bool b1) ∧ w' = W from fun W => by rw [hb1]; exact within_any _ _ _ W)
  have HW2 := Lib.hid (show ∀ W, Calls Tryz.prog 34 #[.int .i64 hz, .int .i64 0, .int .i64 1099511627775] W fun e w' => e = .returned (.bool b2) ∧ w' = W from fun W => by rw [hb2]; exact within_any _ _ _ W)
  have HRS := Lib.hid (rising_anyE (w := wa) (hE.kept ba) (mb := w.heap.size) (stayB pf d) (fun W z hz9 hB hok => stays_any (w := W) pf (Nat.lt_of_lt_of_le hla hB.size) ((hB.cell (p := ⟨w.heap.size, 1, none⟩) hla).trans (cell_blk ga rfl)) z.key z.win z.part z.fst z.lst z.rows z.size z.sum z.born hok.1 (fun W2 h2 => hP W2 z hz9 ((ba.trans (hB.mono ba.size)).trans (h2.mono (ba.trans (hB.mono ba.size)).size)))))
  have HV := Lib.hid (show IsMan pf s d hz en le mn lm on lo ↔ ((b0 && (b1 && b2)) = true ∧ en ≤ 256 ∧ RisOk (stayB pf d) (fun a b => cmpS a.key b.key) EntS.z le en ∧ RisOk isMarkB (fun a b => cmp3 a.1 b.1) MarkS.z lm mn ∧ RisOk isOwnB (fun a b => cmp3 a.1 b.1) OwnS.z lo on) from by rw [hb0, hb1, hb2]; exact Iff.rfl)
  have HBA := Lib.hid ba
  have HGA := Lib.hid ga
  have HWA := Lib.hid hwa
  have HM := Lib.hid hM
  have HO := Lib.hid hO
  have a0 : wa.cell? ⟨w.heap.size, 0, none⟩ = some (.int .i64 s) := cell_blk ga rfl
  have a1 : wa.cell? ⟨w.heap.size, 1, none⟩ = some (.int .i64 d) := cell_blk ga rfl
  have a2 : wa.cell? ⟨w.heap.size, 2, none⟩ = some (.int .i64 hz) := cell_blk ga rfl
  have a3 : wa.cell? ⟨w.heap.size, 3, none⟩ = some (.slice ea en ec) := cell_blk ga rfl
  clear hwa ba ga hla hb0 hb1 hb2 hE hM hO hP
  go_enter Tryz.func11, Tryz.ntmps11
  go_wp2_with fail
  rw [← HWA.out]
  refine (HW0.out _).mono ?_
  rintro e w1 ⟨rfl, rfl⟩
  cases b0 with
  | false =>
    go_wp2_with fail
    go_ret
    exact ⟨ManIs.no (fun h => by have := (HV.out.1 h).1; cases this), HBA.out⟩
  | true =>
  go_wp2_with fail
  refine (HW1.out _).mono ?_
  rintro e w1 ⟨rfl, rfl⟩
  cases b1 with
  | false =>
    go_wp2_with fail
    go_ret
    exact ⟨ManIs.no (fun h => by have := (HV.out.1 h).1; cases this), HBA.out⟩
  | true =>
  go_wp2_with fail
  refine (HW2.out _).mono ?_
  rintro e w1 ⟨rfl, rfl⟩
  cases b2 with
  | false =>
    go_wp2_with fail
    go_ret
    exact ⟨ManIs.no (fun h => by have := (HV.out.1 h).1; cases this), HBA.out⟩
  | true =>
  by_cases hen : en ≤ 256
  · have heni : (en : Int) ≤ 256 := by omega
    have HEN := Lib.hid hen
    clear hen
    go_wp2_with fail
    refine HRS.out.mono ?_
    rintro e w2 ⟨⟨r1, rfl, hr1⟩, hb2⟩
    have HR1 := Lib.hid hr1
    have HB2 := Lib.hid (HBA.out.trans (hb2.mono HBA.out.size))
    have HG2 := Lib.hid ((hb2.block w.heap.size (Array.getElem?_eq_some_iff.1 HGA.out).1).trans HGA.out)
    have n4 : w2.cell? ⟨w.heap.size, 4, none⟩ = some (.slice ma mn mc) := cell_blk HG2.out rfl
    have HRM := Lib.hid (rising_anyM (w := w2) (HM.out.kept HB2.out) (mb := 0) isMarkB (fun W z _ _ _ => rightM_any z.1 z.2 W))
    clear hb2 hr1 a0 a1 a2 a3
    cases r1 with
    | false =>
      go_wp2_with fail
      go_ret
      exact ⟨ManIs.no (fun h => by have := HR1.out.2 (HV.out.1 h).2.2.1; cases this), HB2.out⟩
    | true =>
    go_wp2_with fail
    refine HRM.out.mono ?_
    rintro e w3 ⟨⟨r2, rfl, hr2⟩, hb3⟩
    have HR2 := Lib.hid hr2
    have HB3 := Lib.hid (HB2.out.trans (hb3.mono HB2.out.size))
    have HG3 := Lib.hid ((hb3.block w.heap.size (Array.getElem?_eq_some_iff.1 HG2.out).1).trans HG2.out)
    have n5 : w3.cell? ⟨w.heap.size, 5, none⟩ = some (.slice oa on oc) := cell_blk HG3.out rfl
    have HRO := Lib.hid (rising_anyO (w := w3) (HO.out.kept HB3.out) (mb := 0) isOwnB (fun W z _ _ _ => rightO_any z.1 z.2.1 z.2.2 W))
    clear hb3 hr2 n4
    cases r2 with
    | false =>
      go_wp2_with fail
      go_ret
      exact ⟨ManIs.no (fun h => by have := HR2.out.2 (HV.out.1 h).2.2.2.1; cases this), HB3.out⟩
    | true =>
    go_wp2_with fail
    refine HRO.out.mono ?_
    rintro e w4 ⟨⟨r3, rfl, hr3⟩, hb4⟩
    have HR3 := Lib.hid hr3
    have HB4 := Lib.hid (HB3.out.trans (hb4.mono HB3.out.size))
    clear hb4 hr3 n5
    cases r3 with
    | false =>
      go_wp2_with fail
      go_ret
      exact ⟨ManIs.no (fun h => by have := HR3.out.2 (HV.out.1 h).2.2.2.2; cases this), HB4.out⟩
    | true =>
      have HY := Lib.hid (HV.out.2 ⟨rfl, HEN.out, HR1.out.1 (by simp), HR2.out.1 (by simp), HR3.out.1 (by simp)⟩)
      go_wp2_with fail
      go_ret
      exact ⟨ManIs.yes HY.out, HB4.out⟩
  · have heni : (256 : Int) < (en : Int) := by omega
    have HN := Lib.hid (show ¬ IsMan pf s d hz en le mn lm on lo from fun h => hen (HV.out.1 h).2.1)
    clear hen
    go_wp2_with fail
    go_ret
    exact ⟨ManIs.no HN.out, HBA.out⟩
end Go.Proofs.YtbdgcfimbblncaaGreatDoor
end PkMB5_3
section PkMB5_4
/- Plain facts on the checksum's register: a bit at a time, a nibble at a time. No Go in sight. -/
namespace Go.Proofs.YtbdgcfimbblncaaGreatDoor.CrcPlain
open Go

/-- the register behind one shift -/
def sb (c : Nat) : Nat := (c / 2) ^^^ (if c % 2 = 1 then 3988292384 else 0)
/-- behind n shifts -/
def sbs : Nat → Nat → Nat
  | 0, c => c
  | n + 1, c => sbs n (sb c)

theorem xor_half (a b : Nat) : (a ^^^ b) / 2 = (a / 2) ^^^ (b / 2) := by
  simpa [Nat.shiftRight_eq_div_pow] using (Nat.shiftRight_xor_distrib (a := a) (b := b) (i := 1))
theorem xor_odd (a b : Nat) : (a ^^^ b) % 2 = (a % 2 + b % 2) % 2 := by
  have h := Nat.testBit_xor a b 0
  simp only [Nat.testBit_zero] at h
  generalize a ^^^ b = x at h ⊢
  rcases Nat.mod_two_eq_zero_or_one a with ha | ha <;> rcases Nat.mod_two_eq_zero_or_one b with hb | hb <;> rw [ha, hb] at h <;> simp at h <;> omega
theorem xor_nought {a b : Nat} (h : a ^^^ b = 0) : a = b := by
  have e : (a ^^^ b) ^^^ b = a := by rw [Nat.xor_assoc, Nat.xor_self, Nat.xor_zero]
  rw [h, Nat.zero_xor] at e
  exact e.symm
theorem sb_xor (a b : Nat) : sb (a ^^^ b) = sb a ^^^ sb b := by
  unfold sb
  rw [xor_half, xor_odd]
  rcases Nat.mod_two_eq_zero_or_one a with ha | ha <;> rcases Nat.mod_two_eq_zero_or_one b with hb | hb <;> simp only [ha, hb]
  · simp
  · simp [Nat.xor_assoc]
  · simp
    rw [Nat.xor_assoc, Nat.xor_comm (b / 2), ← Nat.xor_assoc]
  · have e : (a / 2 ^^^ 3988292384) ^^^ (b / 2 ^^^ 3988292384) = a / 2 ^^^ b / 2 := by
      rw [Nat.xor_assoc, ← Nat.xor_assoc 3988292384, Nat.xor_comm 3988292384 (b / 2), Nat.xor_assoc (b / 2), Nat.xor_self, Nat.xor_zero]
    simp [e]
theorem sbs_xor (n : Nat) : ∀ a b, sbs n (a ^^^ b) = sbs n a ^^^ sbs n b := by
  induction n with
  | zero => intro a b; rfl
  | succ n ih => intro a b; simp only [sbs, sb_xor, ih]
theorem sb_even (q : Nat) : sb (2 * q) = q := by
  unfold sb
  rw [if_neg (by omega), Nat.xor_zero]; omega
theorem sbs_pow (n : Nat) : ∀ q, sbs n (2 ^ n * q) = q := by
  induction n with
  | zero => intro q; simp [sbs]
  | succ n ih =>
    intro q
    have e : 2 ^ (n + 1) * q = 2 * (2 ^ n * q) := by rw [Nat.pow_succ, Nat.mul_comm (2 ^ n) 2, Nat.mul_assoc]
    rw [sbs, e, sb_even, ih]
theorem sb_lt {c : Nat} (h : c < 4294967296) : sb c < 4294967296 := by
  unfold sb
  have h1 : c / 2 < 2 ^ 32 := by omega
  split
  · exact Nat.xor_lt_two_pow (n := 32) h1 (by decide)
  · exact Nat.xor_lt_two_pow (n := 32) h1 (by decide)
/-- the table of sixteen -/
def nib : List Nat := [0, 498536548, 997073096, 651767980, 1994146192, 1802195444, 1303535960, 1342533948, 3988292384, 4027552580, 3604390888, 3412177804, 2607071920, 2262029012, 2685067896, 3183342108]
theorem nib_ok : ∀ r, r < 16 → sbs 4 r = nib.getD r 0 := by decide
theorem four (c : Nat) : sbs 4 c = (c / 16) ^^^ nib.getD (c % 16) 0 := by
  have e : c = (2 ^ 4 * (c / 16)) ^^^ (c % 16) := by
    apply Nat.eq_of_testBit_eq
    intro i
    rw [Nat.testBit_xor, Nat.testBit_two_pow_mul, show c / 16 = c / 2 ^ 4 from rfl, Nat.testBit_div_two_pow, show c % 16 = c % 2 ^ 4 from rfl, Nat.testBit_mod_two_pow]
    rcases Nat.lt_or_ge i 4 with g | g
    · have h1 : decide (i ≥ 4) = false := by simp; omega
      have h2 : decide (i < 4) = true := by simp; omega
      rw [h1, h2]; simp
    · have h1 : decide (i ≥ 4) = true := by simp; omega
      have h2 : decide (i < 4) = false := by simp; omega
      rw [h1, h2]
      have h3 : i - 4 + 4 = i := by omega
      simp [h3]
  conv => lhs; rw [e]
  rw [sbs_xor, sbs_pow, nib_ok _ (Nat.mod_lt _ (by omega))]
/-- a register that isn't nought stays so -/
theorem sb_zero {c : Nat} (h : c < 4294967296) (h0 : sb c = 0) : c = 0 := by
  unfold sb at h0
  have h1 := xor_nought h0
  split at h1
  · omega
  · omega
theorem sbs_zero (n : Nat) : ∀ c, c < 4294967296 → sbs n c = 0 → c = 0 := by
  induction n with
  | zero => intro c _ h; exact h
  | succ n ih => intro c hc h; exact sb_zero hc (ih _ (sb_lt hc) h)
theorem sbs_lt (n : Nat) : ∀ c, c < 4294967296 → sbs n c < 4294967296 := by
  induction n with
  | zero => intro c h; exact h
  | succ n ih => intro c h; exact ih _ (sb_lt h)
theorem sbs_add (m : Nat) : ∀ (n c : Nat), sbs (n + m) c = sbs m (sbs n c)
  | 0, c => by rw [Nat.zero_add]; rfl
  | n + 1, c => by
    rw [show n + 1 + m = (n + m) + 1 from by omega]
    simp only [sbs]
    exact sbs_add m n (sb c)
/-- a register that differs goes on to differ -/
theorem sbs_inj {n a b : Nat} (ha : a < 4294967296) (hb : b < 4294967296) (h : sbs n a = sbs n b) : a = b := by
  apply xor_nought
  apply sbs_zero n _ (Nat.xor_lt_two_pow (n := 32) ha hb)
  rw [sbs_xor, h, Nat.xor_self]
theorem split_xor (n c : Nat) : c = (2 ^ n * (c / 2 ^ n)) ^^^ (c % 2 ^ n) := by
  apply Nat.eq_of_testBit_eq
  intro i
  rw [Nat.testBit_xor, Nat.testBit_two_pow_mul, Nat.testBit_div_two_pow, Nat.testBit_mod_two_pow]
  rcases Nat.lt_or_ge i n with g | g
  · have h1 : decide (i ≥ n) = false := by simp; omega
    have h2 : decide (i < n) = true := by simp; omega
    rw [h1, h2]; simp
  · have h1 : decide (i ≥ n) = true := by simp; omega
    have h2 : decide (i < n) = false := by simp; omega
    rw [h1, h2]
    have h3 : i - n + n = i := by omega
    simp [h3]

/-- the register behind bytes -/
def reg : Nat → List Nat → Nat
  | c, [] => c
  | c, x :: xs => reg (sbs 8 (c ^^^ x)) xs
/-- bytes as one number, the lowest first -/
def val : List Nat → Nat
  | [] => 0
  | x :: xs => x + 256 * val xs
theorem val_cons {x : Nat} (h : x < 256) (v : Nat) : x + 256 * v = x ^^^ (256 * v) := by
  have e := split_xor 8 (x + 256 * v)
  have h1 : (x + 256 * v) / 2 ^ 8 = v := by omega
  have h2 : (x + 256 * v) % 2 ^ 8 = x := by omega
  rw [h1, h2] at e
  rw [Nat.xor_comm x]
  exact e
/-- the register behind bytes is that number, shifted through -/
theorem reg_val : ∀ (xs : List Nat) (c : Nat), (∀ x ∈ xs, x < 256) → reg c xs = sbs (8 * xs.length) (c ^^^ val xs)
  | [], c, _ => by simp [reg, val, sbs]
  | x :: xs, c, h => by
    have hx : x < 256 := h x (List.mem_cons_self)
    rw [reg, reg_val xs _ (fun y hy => h y (List.mem_cons_of_mem _ hy)), val, val_cons hx, List.length_cons, show 8 * (xs.length + 1) = 8 + 8 * xs.length from by omega, sbs_add]
    congr 1
    rw [← Nat.xor_assoc, sbs_xor 8 (c ^^^ x)]
    congr 1
    exact (sbs_pow 8 (val xs)).symm
/-- a byte's step, a nibble at a time -/
theorem step_nib (c x : Nat) : sbs 8 (c ^^^ x) = (((c ^^^ x) / 16) ^^^ nib.getD ((c ^^^ x) % 16) 0) / 16 ^^^ nib.getD ((((c ^^^ x) / 16) ^^^ nib.getD ((c ^^^ x) % 16) 0) % 16) 0 := by
  rw [show 8 = 4 + 4 from rfl, sbs_add, four, four]
/-- what is turned within 32 bits in a row turns the register -/
theorem turned (N at_ W : Nat) (hW : W < 4294967296) (h0 : W ≠ 0) (hat : at_ ≤ N) (c : Nat) : sbs N (c ^^^ (2 ^ at_ * W)) ≠ sbs N c := by
  intro h
  rw [sbs_xor] at h
  have h1 : sbs N (2 ^ at_ * W) = 0 := by
    have e : (sbs N c ^^^ sbs N (2 ^ at_ * W)) ^^^ sbs N c = 0 := by rw [h, Nat.xor_self]
    rw [Nat.xor_comm (sbs N c), Nat.xor_assoc, Nat.xor_self, Nat.xor_zero] at e
    exact e
  rw [show N = at_ + (N - at_) from by omega, sbs_add, sbs_pow] at h1
  exact h0 (sbs_zero _ _ hW h1)
end Go.Proofs.YtbdgcfimbblncaaGreatDoor.CrcPlain
end PkMB5_4
section PkMB5_5
/- Package crc's Digest.Write, walked, given what the table holds. -/
namespace Go.Proofs.YtbdgcfimbblncaaGreatDoor
open Go.RowKit CrcPlain
set_option linter.unusedVariables false

/-- the table as it was laid -/
def Table (w : World) : Prop := ∀ r, r < 16 → w.cell? ⟨0, r, none⟩ = some (.int .u32 ((nib.getD r 0 : Nat) : Int))
theorem nib_lt : ∀ r, r < 16 → nib.getD r 0 < 4294967296 := by decide
theorem and15 (c : Nat) (h : c < 4294967296) : bits .and .u32 (c : Int) 15 = ((c % 16 : Nat) : Int) := by
  have := u32_and_nat c 15 h (by omega)
  rw [show c &&& 15 = c % 16 from Nat.and_two_pow_sub_one_eq_mod c 4] at this
  exact this
theorem xor_nat (a b : Nat) (ha : a < 4294967296) (hb : b < 4294967296) : bits .xor .u32 (a : Int) (b : Int) = ((a ^^^ b : Nat) : Int) := u32_xor_nat a b ha hb
theorem not_nat (a : Nat) (ha : a < 4294967296) : bits .xor .u32 (if IntKind.u32.signed = true then -1 else IntKind.u32.max) (a : Int) = ((4294967295 ^^^ a : Nat) : Int) := u32_xor_nat 4294967295 a (by omega) ha
theorem reg_snoc : ∀ (xs : List Nat) (c y : Nat), reg c (xs ++ [y]) = sbs 8 (reg c xs ^^^ y)
  | [], _, _ => rfl
  | x :: xs, c, y => by simp only [List.cons_append, reg]; exact reg_snoc xs _ y
theorem reg_lt : ∀ (xs : List Nat) (c : Nat), (∀ x ∈ xs, x < 256) → c < 4294967296 → reg c xs < 4294967296
  | [], c, _, h => h
  | x :: xs, c, hx, h => reg_lt xs _ (fun y hy => hx y (List.mem_cons_of_mem _ hy)) (sbs_lt 8 _ (Nat.xor_lt_two_pow (n := 32) h (Nat.lt_trans (hx x List.mem_cons_self) (by decide))))

set_option maxRecDepth 100000 in
set_option maxHeartbeats 2000000 in
theorem write_any {w : World} {B : Nat} {d : Nat} (hd : d < 4294967296) (hB : w.heap[B]? = some (.cells #[.int .u32 (d : Int)] 146 (0, 0))) (hT : Table w) {a : Option Addr} {n c : Nat} {xs : List Nat} (h : BytesAt w a n c xs) :
    Calls Tryz.prog 109 #[.pointer (some ⟨B, 0, none⟩), .slice a n c] w fun e w' => e = .returned (.tuple #[]) ∧ w' = w.setCell ⟨B, 0, none⟩ (.int .u32 ((4294967295 ^^^ reg (4294967295 ^^^ d) xs : Nat) : Int)) := by
  have h0 : w.cell? ⟨B, 0, none⟩ = some (.int .u32 (d : Int)) := by rw [cell_of_row w B 0 _ _ (0, 0) hB]; rfl
  have f0 : w.frozen? ⟨B, 0, none⟩ = false := frozen_of_row w B 0 _ _ hB
  have HH := Lib.hid h
  have HT := Lib.hid hT
  have hcap := h.cap
  have hcm := h.capm
  have E0 := not_nat d hd
  obtain ⟨R, hR⟩ : ∃ R, R = 4294967295 ^^^ d := ⟨_, rfl⟩
  have hR32 : R < 4294967296 := by rw [hR]; exact Nat.xor_lt_two_pow (n := 32) (by decide) hd
  rw [← hR] at E0 ⊢
  have HR := Lib.hid hR
  have HR32 := Lib.hid hR32
  have HBY := Lib.hid h.byte
  clear hR hR32 hd hB hT h
  go_enter Tryz.func109, Tryz.ntmps109
  go_wp2_with fail
  go_loop [4, 16] (fun s4 s16 => ∃ k : Nat, k ≤ n ∧ s16 = .int .i64 k ∧ s4 = .int .u32 ((reg R (xs.take k) : Nat) : Int)) (fun _ s16 => n - (intOf s16).toNat)
  case atStart => exact ⟨0, by omega, rfl, rfl⟩
  case round =>
    obtain ⟨k, hk, rfl, rfl⟩ := hrel
    have hlen := HH.out.len
    obtain ⟨q, hq⟩ : ∃ q, q = reg R (xs.take k) := ⟨_, rfl⟩
    have hq32 : q < 4294967296 := by rw [hq]; exact reg_lt _ _ (fun x hx => HBY.out x (List.mem_of_mem_take hx)) HR32.out
    rw [← hq]
    by_cases hkn : k < n
    · obtain ⟨b, off, rfl, hlt, hc⟩ := HH.out.cells (by omega)
      have hck := hc k hkn
      obtain ⟨x, hx⟩ : ∃ x, x = xs.getD k 0 := ⟨_, rfl⟩
      have hx256 : x < 256 := by
        have h1 : k < xs.length := by omega
        have : xs.getD k 0 = xs[k] := by simp [h1]
        rw [hx, this]
        exact HBY.out _ (List.getElem_mem h1)
      rw [← hx] at hck
      have htk : xs.take (k + 1) = xs.take k ++ [x] := by
        have h1 : k < xs.length := by omega
        rw [List.take_add_one, List.getElem?_eq_getElem h1, hx]; simp [h1]
      have E1 := xor_nat q x hq32 (by omega)
      obtain ⟨c1, hc1⟩ : ∃ c1, c1 = q ^^^ x := ⟨_, rfl⟩
      have c1l : c1 < 4294967296 := by rw [hc1]; exact Nat.xor_lt_two_pow (n := 32) hq32 (by omega)
      rw [← hc1] at E1
      have E2 := and15 c1 c1l
      obtain ⟨r1, hr1⟩ : ∃ r1, r1 = c1 % 16 := ⟨_, rfl⟩
      have r1l : r1 < 16 := by omega
      rw [← hr1] at E2
      have T1 := HT.out r1 r1l
      have n1 := nib_lt r1 r1l
      obtain ⟨y1, hy1⟩ : ∃ y1, y1 = nib.getD r1 0 := ⟨_, rfl⟩
      rw [← hy1] at T1 n1
      have E3 := xor_nat (c1 / 16) y1 (by omega) n1
      obtain ⟨c2, hc2⟩ : ∃ c2, c2 = (c1 / 16) ^^^ y1 := ⟨_, rfl⟩
      have c2l : c2 < 4294967296 := by rw [hc2]; exact Nat.xor_lt_two_pow (n := 32) (by omega) n1
      rw [← hc2, show ((c1 / 16 : Nat) : Int) = (c1 : Int) / 16 from by push_cast; rfl] at E3
      have E4 := and15 c2 c2l
      obtain ⟨r2, hr2⟩ : ∃ r2, r2 = c2 % 16 := ⟨_, rfl⟩
      have r2l : r2 < 16 := by omega
      rw [← hr2] at E4
      have T2 := HT.out r2 r2l
      have n2 := nib_lt r2 r2l
      obtain ⟨y2, hy2⟩ : ∃ y2, y2 = nib.getD r2 0 := ⟨_, rfl⟩
      rw [← hy2] at T2 n2
      have E5 := xor_nat (c2 / 16) y2 (by omega) n2
      obtain ⟨c3, hc3⟩ : ∃ c3, c3 = (c2 / 16) ^^^ y2 := ⟨_, rfl⟩
      rw [← hc3, show ((c2 / 16 : Nat) : Int) = (c2 : Int) / 16 from by push_cast; rfl] at E5
      have hend : c3 = reg R (xs.take (k + 1)) := by
        rw [htk, reg_snoc, ← hq, step_nib, ← hc1, ← hr1, ← hy1, ← hc2, ← hr2, ← hy2, ← hc3]
      have HE := Lib.hid hend
      clear hc hx htk hq hc1 hr1 hy1 hc2 hr2 hy2 hc3 hend c1l c2l n1 n2 hq32
      go_wp2_with fail
      go_round
      case rel => exact ⟨k + 1, by omega, by go_num, by rw [← HE.out]⟩
      case measure => simp [intOf]; omega
    · have hkn2 : k = n := by omega
      have hfull : xs.take k = xs := List.take_of_length_le (by omega)
      have E6 := not_nat q hq32
      rw [hfull] at hq
      have HQ := Lib.hid hq
      clear hq hq32 hfull
      go_wp2_with fail
      go_end0
      rw [← HQ.out]
      exact ⟨rfl, rfl⟩
end Go.Proofs.YtbdgcfimbblncaaGreatDoor
end PkMB5_5
section PkMB5_6
/- Package crc's Sum, walked, given what the table holds. -/
namespace Go.Proofs.YtbdgcfimbblncaaGreatDoor
open Go.RowKit CrcPlain
set_option linter.unusedVariables false

/-- the checksum -/
def crcN (l : List Nat) : Nat := 4294967295 ^^^ reg 4294967295 l
theorem ones_twice (r : Nat) : 4294967295 ^^^ (4294967295 ^^^ r) = r := by rw [← Nat.xor_assoc, Nat.xor_self, Nat.zero_xor]
theorem reg_append : ∀ (xs ys : List Nat) (c : Nat), reg c (xs ++ ys) = reg (reg c xs) ys
  | [], _, _ => rfl
  | x :: xs, ys, c => by simp only [List.cons_append, reg]; exact reg_append xs ys _
theorem crcN_app (l xs : List Nat) : 4294967295 ^^^ reg (4294967295 ^^^ crcN l) xs = crcN (l ++ xs) := by
  unfold crcN; rw [ones_twice, reg_append]
theorem crcN_nil : crcN [] = 0 := by simp [crcN, reg]
theorem crcN_lt (l : List Nat) (h : ∀ x ∈ l, x < 256) : crcN l < 4294967296 := Nat.xor_lt_two_pow (n := 32) (by decide) (reg_lt l _ h (by decide))

theorem Table.below {w w' : World} (h : Table w) (hb : Below w.heap.size w w') : Table w' := fun r hr => by
  have h1 := h r hr
  have h2 := World.block_lt_of_cell? w _ h1
  exact (hb.cell (p := ⟨0, r, none⟩) h2).trans h1

/-- parts that lie in memory -/
structure Parts (w : World) (a : Option Addr) (m c : Nat) (X : Nat → List Nat) : Prop where
  cap : m ≤ c
  capm : c ≤ 9223372036854775807
  cells : 0 < m → ∃ b off, a = some ⟨b, off, none⟩ ∧ b < w.heap.size ∧ ∀ i, i < m → ∃ a1 n1 c1, w.cell? ⟨b, off + i, none⟩ = some (.slice a1 n1 c1) ∧ BytesAt w a1 n1 c1 (X i)

def flat (X : Nat → List Nat) (k : Nat) : List Nat := (List.range k).flatMap X
theorem flat_succ (X : Nat → List Nat) (k : Nat) : flat X (k + 1) = flat X k ++ X k := by simp [flat, List.range_succ]

set_option maxHeartbeats 400000 in
theorem dsum_any {w : World} {B d : Nat} (hB : w.heap[B]? = some (.cells #[.int .u32 (d : Int)] 146 (0, 0))) :
    Calls Tryz.prog 110 #[.pointer (some ⟨B, 0, none⟩)] w fun e w' => e = .returned (.int .u32 (d : Int)) ∧ w = w' := by
  have h0 : w.cell? ⟨B, 0, none⟩ = some (.int .u32 (d : Int)) := by rw [cell_of_row w B 0 _ _ (0, 0) hB]; rfl
  clear hB
  go_enter Tryz.func110, Tryz.ntmps110
  go_wp2_with fail
  go_ret
  exact ⟨rfl, rfl⟩

set_option maxRecDepth 100000 in
set_option maxHeartbeats 2000000 in
theorem sum_any {w : World} (hT : Table w) {a : Option Addr} {m c : Nat} {X : Nat → List Nat} (h : Parts w a m c X) (hby : ∀ k, k ≤ m → ∀ x ∈ flat X k, x < 256) :
    Calls Tryz.prog 78 #[.slice a m c] w fun e w' => e = .returned (.int .u32 ((crcN (flat X m) : Nat) : Int)) ∧ Below w.heap.size w w' := by
  have hcap := h.cap
  have hcm := h.capm
  have HC := Lib.hid h.cells
  have HT := Lib.hid hT
  have HBY := Lib.hid hby
  clear h hT hby
  obtain ⟨D, hD⟩ : ∃ D, D = w.heap.size := ⟨_, rfl⟩
  have HD := Lib.hid hD
  obtain ⟨w0, hw0⟩ : ∃ w0, w0 = w.alloc (.cells #[.int .u32 0] 146) := ⟨_, rfl⟩
  have HB0 := Lib.hid (show Below w.heap.size w w0 by rw [hw0]; exact (Below.refl _ _).alloc (Nat.le_refl _) _)
  have HK0 := Lib.hid (show w0.heap[D]? = some (.cells #[.int .u32 ((crcN (flat X 0) : Nat) : Int)] 146 (0, 0)) by
    rw [hw0, hD, show flat X 0 = [] from rfl, crcN_nil]; exact heap_alloc_new w _)
  have HW0 := Lib.hid hw0
  clear hD hw0
  go_enter Tryz.func78, Tryz.ntmps78
  go_wp2_with fail
  rw [← HW0.out, ← HD.out]
  go_loopw [5, 8] (fun s5 s8 wr => ∃ k : Nat, k ≤ m ∧ s8 = .int .i64 k ∧ Hid (wr.heap[D]? = some (.cells #[.int .u32 ((crcN (flat X k) : Nat) : Int)] 146 (0, 0))) ∧ Hid (Below w.heap.size w wr)) (fun _ s8 _ => m - (intOf s8).toNat)
  case atStart => exact ⟨0, by omega, rfl, HK0, HB0⟩
  case round =>
    obtain ⟨k, hk, rfl, HK, HB⟩ := hrel
    rename World => wr
    by_cases hkm : k < m
    · obtain ⟨b, off, rfl, hlt, hc⟩ := HC.out (by omega)
      obtain ⟨a1, n1, c1, h1, h2⟩ := hc k hkm
      have hck := (HB.out.cell (p := ⟨b, off + k, none⟩) hlt).trans h1
      have HWR := Lib.hid (write_any (crcN_lt _ (HBY.out k hk)) HK.out (HT.out.below HB.out) (h2.kept HB.out))
      clear hc h1 h2
      go_wp2_with fail
      refine HWR.out.mono ?_
      rintro e w2 ⟨rfl, hw2⟩
      have hg : wr.grownBy w2 (some D) := by
        rw [hw2]
        exact ⟨rfl, rfl, rfl, by simp, fun j _ hj => heap_setCell_other wr ⟨D, 0, none⟩ j _ (fun e => hj (by simp [e]))⟩
      have HB2 := Lib.hid (HB.out.grown hg HB.out.size (fun j hj => by cases hj; exact Nat.le_of_eq HD.out.symm))
      have HK2 := Lib.hid (show w2.heap[D]? = some (.cells #[.int .u32 ((crcN (flat X (k + 1)) : Nat) : Int)] 146 (0, 0)) by
        rw [hw2, heap_setCell_same wr D 0 _ _ _ HK.out, crcN_app, ← flat_succ]; rfl)
      clear hg hw2
      go_wp2_with fail
      go_roundw
      case rel => exact ⟨k + 1, by omega, by go_num, HK2, HB2⟩
      case measure => simp [intOf]; omega
    · have hkm2 : k = m := by omega
      subst hkm2
      have HS := Lib.hid (dsum_any HK.out)
      go_wp2_with fail
      refine HS.out.mono ?_
      rintro e w2 ⟨rfl, rfl⟩
      go_wp2_with fail
      go_ret
      exact ⟨rfl, HB.out⟩
end Go.Proofs.YtbdgcfimbblncaaGreatDoor
end PkMB5_6
section PkMB5_7
/- Package crc's Seal, walked, given what the table holds. Condition: at most 100,000 bytes. -/
namespace Go.Proofs.YtbdgcfimbblncaaGreatDoor
open Go.RowKit CrcPlain
set_option linter.unusedVariables false

/-- the first k of a number's bytes, the lowest first -/
def le (s : Nat) (k : Nat) : List Nat := (List.range k).map fun i => s / 2 ^ (8 * i) % 256
theorem le_succ (s k : Nat) : le s (k + 1) = le s k ++ [s / 2 ^ (8 * k) % 256] := by simp [le, List.range_succ]
theorem le_len (s k : Nat) : (le s k).length = k := by simp [le]
theorem le_byte (s k : Nat) : ∀ x ∈ le s k, x < 256 := by
  intro x hx
  simp only [le, List.mem_map] at hx
  obtain ⟨i, _, rfl⟩ := hx
  exact Nat.mod_lt _ (by omega)
def sealed (l : List Nat) : List Nat := l ++ le (crcN l) 4

set_option maxRecDepth 100000 in
set_option maxHeartbeats 2000000 in
theorem seal_any {w : World} (hT : Table w) {a : Option Addr} {n c : Nat} {xs : List Nat} (h : BytesAt w a n c xs) (hn : n ≤ 1000000) :
    Calls Tryz.prog 29 #[.slice a n c] w fun e w' => ∃ a' c', e = .returned (.slice a' (n + 4) c') ∧ BytesAt w' a' (n + 4) c' (sealed xs) ∧ Below w.heap.size w w' ∧ (∀ b off s, a' = some ⟨b, off, s⟩ → w.heap.size ≤ b) ∧ w'.ownsRow w.heap.size 5 1 (.slice a' (n + 4) c') (n + 4) (bv (sealed xs)) := by
  obtain ⟨i0, hi, hz0, hz1, hz2⟩ := info_parts info_u8
  have HH := Lib.hid h
  have hlen := h.len
  have HBX := Lib.hid h.byte
  have hf1 : flat (fun _ => xs) 1 = xs := by simp [flat]
  obtain ⟨w0, hw0⟩ : ∃ w0, w0 = w.alloc (.cells #[.slice a n c] 30) := ⟨_, rfl⟩
  have hb0 : Below w.heap.size w w0 := by rw [hw0]; exact (Below.refl _ _).alloc (Nat.le_refl _) _
  have hpt : Parts w0 (some ⟨w.heap.size, 0, none⟩) 1 1 (fun _ => xs) := ⟨Nat.le_refl _, by omega, fun _ => ⟨w.heap.size, 0, rfl, by rw [hw0]; simp, fun i hi => ⟨a, n, c, by
    obtain rfl : i = 0 := by omega
    rw [hw0]; simp, h.kept hb0⟩⟩⟩
  have hsum := sum_any (hT.below hb0) hpt (fun k hk x hx => by
    simp only [flat, List.mem_flatMap] at hx
    obtain ⟨_, _, hx⟩ := hx
    exact h.byte x hx)
  rw [hf1] at hsum
  obtain ⟨s, hs⟩ : ∃ s, s = crcN xs := ⟨_, rfl⟩
  have hs32 : s < 4294967296 := by rw [hs]; exact crcN_lt xs h.byte
  rw [← hs] at hsum
  have HS := Lib.hid hs
  have HS32 := Lib.hid hs32
  have HSUM := Lib.hid hsum
  have HW0 := Lib.hid hw0
  have HB0 := Lib.hid hb0
  have e1 : IntKind.i64.wrap ((n : Int) + 4) = ((n + 4 : Nat) : Int) := by rw [IntWalk.i64_in _ (by omega)]; omega
  clear h hT hf1 hpt hsum hs hs32 hw0 hb0
  go_enter Tryz.func29, Tryz.ntmps29
  go_wp2_with fail
  rw [← HW0.out]
  refine HSUM.out.mono ?_
  rintro e w1 ⟨rfl, hb1⟩
  have HB1 := Lib.hid (HB0.out.trans (hb1.mono HB0.out.size))
  have HH1 := Lib.hid ((HH.out.kept HB0.out).kept hb1)
  clear hb1
  have hs1 := HB1.out.size
  go_wp2_with (refine wpList_make_own _ rfl (.const (.int .i64 0)) (.tmp 11) 30 rfl w.heap.size 5 i0 (.int .u8 0) 1 Tryz.underlying30 hi hz0 hz1 .i64 .i64 _ (n + 4) rfl rfl (by omega) (by rw [hz2]; omega) (by unfold maxLen; omega) hs1 ?_)
  intro w2 hown2 hgrow2
  have HO2 := Lib.hid hown2
  have hb12 : Below w1.heap.size w1 w2 := ⟨hgrow2.os, hgrow2.tape, hgrow2.output, hgrow2.size, fun k hk => hgrow2.block k hk (by simp)⟩
  have HB2 := Lib.hid (HB1.out.trans (hb12.mono hs1))
  have HH2 := Lib.hid (HH1.out.kept hb12)
  have hs2 := HB2.out.size
  have hgo := HO2.out
  clear hown2 hgrow2 hb12
  go_wp2_with (at_builtin; refine wpList_append_bytes rfl (.tmp 13) (.tmp 14) rfl w.heap.size _ _ [] rfl hgo _ _ _ _ rfl HH2.out (by omega) hs2 ?_)
  intro v3 w3 hown3 hgrow3
  have HB3 := Lib.hid (HB2.out.grown hgrow3 hs2 (fun k hk => (hgo.lt k hk).1))
  have HO3 := Lib.hid (show w3.ownsRow w.heap.size 5 1 v3 (n + 0) (bv (xs ++ le s 0)) by simpa [le] using hown3)
  clear hgo hown3 hgrow3 hs1 hs2
  go_wp2_with fail
  go_loopw [4, 5, 16] (fun s4 s5 s16 wr => ∃ k : Nat, k ≤ 4 ∧ s16 = .int .i64 k ∧ Hid (wr.ownsRow w.heap.size 5 1 s4 (n + k) (bv (xs ++ le s k))) ∧ Hid (Below w.heap.size w wr)) (fun _ _ s16 _ => 4 - (intOf s16).toNat)
  case atStart => exact ⟨0, by omega, rfl, HO3, HB3⟩
  case round =>
    obtain ⟨k, hk, rfl, HO, HB⟩ := hrel
    rename World => wr
    by_cases hk4 : k < 4
    · have e8 : IntKind.i64.wrap (8 * (k : Int)) = ((8 * k : Nat) : Int) := by rw [IntWalk.i64_in _ (by omega)]; omega
      have hgo := HO.out
      have hbs := HB.out.size
      go_wp2_with (at_builtin; refine wpList_append_own _ rfl (.tmp 19) (.tmp 25) 30 rfl w.heap.size 5 i0 (.int .u8 0) 1 1 Tryz.underlying30 hi hz0 hz1 hz2 rfl (by decide) _ _ _ rfl (hgo.alloc _) ⟨wr.heap.size, 0, none⟩ 1 1 [.int .u8 ((s : Int) / 2 ^ (8 * k) % 256)] rfl rfl (one_src _ _ _) (one_oneCell rfl) (by unfold maxLen; omega) (by omega) (by simp; omega) ?_)
      intro v' w4 hown' hgrow _
      have HO4 := Lib.hid hown'
      have HB4 := Lib.hid ((HB.out.alloc HB.out.size _).grown hgrow (by simp; omega) (fun k hk => (hgo.lt k hk).1))
      clear hown' hgrow hgo
      go_wp2_with fail
      go_roundw
      case rel =>
        refine ⟨k + 1, by omega, by go_num, Lib.hid ?_, HB4⟩
        have e1 : (s : Int) / 2 ^ (8 * k) % 256 = ((s / 2 ^ (8 * k) % 256 : Nat) : Int) := by push_cast; rfl
        have := HO4.out
        rw [e1] at this
        rw [le_succ, ← List.append_assoc, bv_append]
        exact this
      case measure => simp [intOf]; omega
    · have hk42 : k = 4 := by omega
      subst hk42
      have hby : ∀ x ∈ xs ++ le s 4, x < 256 := by
        intro x hx
        rcases List.mem_append.1 hx with g | g
        · exact HBX.out x g
        · exact le_byte s 4 x g
      obtain ⟨a', c', rfl, hba, hfa⟩ := BytesAt.ofOwn HO.out hby (by omega)
      have HBA := Lib.hid hba
      clear hba hby
      go_wp2_with fail
      go_ret
      refine ⟨a', c', rfl, ?_, HB.out, hfa, ?_⟩
      · unfold sealed
        rw [← HS.out]
        exact HBA.out
      · unfold sealed
        rw [← HS.out]
        exact HO.out
end Go.Proofs.YtbdgcfimbblncaaGreatDoor
end PkMB5_7
section PkMB5_8
/- Manifests: package manifest's Encode of a right manifest, walked. Written by genmfe2.py. -/
namespace Go.Proofs.YtbdgcfimbblncaaGreatDoor
open Go.RowKit NumsPlain LabPlain CrcPlain
set_option linter.unusedVariables false

/-- a section: how many, then one by one -/
def secC {α : Type} (f : α → List Nat) (d : α) (l : List α) (n j : Nat) : List Nat := nI [n] ++ sqC f d l j
theorem secC_0 {α : Type} (f : α → List Nat) (d : α) (l : List α) (n : Nat) : secC f d l n 0 = nI [n] := by unfold secC; rw [sqC, List.append_nil]
theorem secC_s {α : Type} (f : α → List Nat) (d : α) (l : List α) (n j : Nat) {x : α} (h : x = l.getD j d) : secC f d l n j ++ f x = secC f d l n (j + 1) := by unfold secC; rw [sqC, List.append_assoc, h]
theorem secC_len {α : Type} {f : α → List Nat} {d : α} {l : List α} {n : Nat} (hn : n ≤ 1000) (h : ∀ x ∈ l, (f x).length ≤ 1500) {j : Nat} (hj : j ≤ l.length) (hj2 : j ≤ 300) : (secC f d l n j).length ≤ 450010 := by
  have h1 := sqC_len (d := d) h j hj
  have h2 := nI_bnd (l := [n]) (m := 10) (fun z hz => by simp at hz; omega) (by simp)
  have h3 : j * 1500 ≤ 300 * 1500 := Nat.mul_le_mul_right _ hj2
  unfold secC; rw [List.length_append]; omega
theorem secC_byte {α : Type} {f : α → List Nat} {d : α} {l : List α} {n : Nat} (hn : n ≤ 1000) (h : ∀ x ∈ l, ∀ y ∈ f x, y < 256) {j : Nat} (hj : j ≤ l.length) : ∀ y ∈ secC f d l n j, y < 256 := by
  intro y hy
  rcases List.mem_append.1 hy with g | g
  · exact nI_byte _ (fun z hz => by simp at hz; omega) y g
  · exact sqC_byte h j hj y g
/-- a manifest's bytes, not sealed -/
def manC (s d hz : Int) (le : List EntV) (lm : List (Int × Int)) (lo : List (Int × Int × Int)) : List Nat :=
  (((([77, 65, 78, 73, 1] ++ nI [s.toNat, d.toNat, hz.toNat]) ++ secC entC EntS.z le le.length le.length) ++ secC markC MarkS.z lm lm.length lm.length) ++ secC ownC OwnS.z lo lo.length lo.length)

set_option maxRecDepth 100000 in
set_option maxHeartbeats 4000000 in
theorem allE_any {w : World} {base n en ec : Nat} {v : Value} {xs : List Nat} {ea : Option Addr} {le : List EntV} (ho : w.ownsRow base 5 1 v n (bv xs)) (hbs : base ≤ w.heap.size) (hn : n ≤ 70000000) (hE : ∀ W, Below base w W → VecAt EntS W ea en ec le) (hen : en ≤ 300) (hN : ∀ x ∈ le, EntNat x) :
    Calls Tryz.prog 22 #[v, .slice ea en ec, .func (.func 23) #[] #[]] w fun e w' => ∃ v', e = .returned v' ∧ w'.ownsRow base 5 1 v' (n + (secC entC EntS.z le en en).length) (bv (xs ++ secC entC EntS.z le en en)) ∧ Gb base w w' := by
  have hv := hE w (Below.refl _ _)
  have hcap := hv.cap
  have hcm := hv.capm
  have HLE := Lib.hid hv.len
  have HEE := Lib.hid hE
  have HNN := Lib.hid hN
  have HBS := Lib.hid hbs
  have HN1 := Lib.hid (mnums_lit (.inl ho) hbs (by omega) [en] #[.int .i64 (en : Int)] 1 rfl rfl (fun z hz => by rw [List.mem_singleton.1 hz]; omega) (by decide) (by decide))
  clear hv hE hN ho hbs
  go_enter Tryz.func22, Tryz.ntmps22
  go_wp2_with fail
  refine HN1.out.mono ?_
  rintro e w1 ⟨v1, rfl, ho1, hg1⟩
  obtain ⟨a1, c1, rfl⟩ := own_slice ho1
  have HO1 := Lib.hid (show w1.ownsRow base 5 1 (.slice a1 (n + (nI [en]).length) c1) (n + (nI [en]).length) (bv (xs ++ secC entC EntS.z le en 0)) from by rw [secC_0]; exact ho1)
  have HM1 := Lib.hid (show n + (nI [en]).length = n + (secC entC EntS.z le en 0).length from by rw [secC_0])
  have HG1 := Lib.hid hg1
  clear ho1 hg1
  go_wp2_with fail
  go_loopw [0, 8, 16] (fun s0 _ s16 wr => ∃ (j m c9 : Nat) (a9 : Option Addr), j ≤ en ∧ s16 = .int .i64 (j : Int) ∧ s0 = .slice a9 m c9 ∧ Hid (m = n + (secC entC EntS.z le en j).length) ∧ Hid (wr.ownsRow base 5 1 (.slice a9 m c9) m (bv (xs ++ secC entC EntS.z le en j))) ∧ Hid (Gb base w wr)) (fun _ _ s16 _ => en - (intOf s16).toNat)
  case atStart => exact ⟨0, _, c1, a1, by omega, rfl, rfl, HM1, HO1, HG1⟩
  case round =>
    clear HM1 HO1 HG1
    obtain ⟨j, m, c9, a9, hj, rfl, rfl, HM, HO, HGB⟩ := hrel
    rename World => wr
    by_cases hjn : j < en
    · have hji : (j : Int) < (en : Int) := by omega
      obtain ⟨sb, so, rfl, hsl, hok, hsc9⟩ := (HEE.out wr HGB.out.below).get hjn
      obtain ⟨x, hx⟩ : ∃ x, x = le.getD j EntS.z := ⟨_, rfl⟩
      rw [← hx] at hsc9
      have hxN : EntNat x := HNN.out x (by rw [hx]; exact vec_mem (S := EntS) (by rw [HLE.out]; exact hjn))
      have HX := Lib.hid hx
      have hm : m ≤ 79000000 := by
        have h1 := HM.out
        have h2 := secC_len (f := entC) (n := en) (d := EntS.z) (by omega) (fun y hy => entC_len (HNN.out y hy)) (j := j) (by rw [HLE.out]; omega) (by omega)
        omega
      have HSZ := Lib.hid (Nat.le_trans HBS.out HGB.out.size)
      obtain ⟨x0, x1, x2, x3, x4, x5, x6, x7, x8⟩ := x
      have d0 : wr.cell? ⟨sb, so + j * 9, none⟩ = some (.string x0) := hsc9 0 _ rfl
      have d1 : wr.cell? ⟨sb, so + j * 9 + 1, none⟩ = some (.int .i64 x1) := hsc9 1 _ rfl
      have d2 : wr.cell? ⟨sb, so + j * 9 + 2, none⟩ = some (.string x2) := hsc9 2 _ rfl
      have d3 : wr.cell? ⟨sb, so + j * 9 + 3, none⟩ = some (.int .i64 x3) := hsc9 3 _ rfl
      have d4 : wr.cell? ⟨sb, so + j * 9 + 4, none⟩ = some (.int .i64 x4) := hsc9 4 _ rfl
      have d5 : wr.cell? ⟨sb, so + j * 9 + 5, none⟩ = some (.int .i64 x5) := hsc9 5 _ rfl
      have d6 : wr.cell? ⟨sb, so + j * 9 + 6, none⟩ = some (.int .i64 x6) := hsc9 6 _ rfl
      have d7 : wr.cell? ⟨sb, so + j * 9 + 7, none⟩ = some (.int .u32 x7) := hsc9 7 _ rfl
      have d8 : wr.cell? ⟨sb, so + j * 9 + 8, none⟩ = some (.int .i64 x8) := hsc9 8 _ rfl
      have HGA := Lib.hid (Gb.alloc wr (.cells #[.string x0, .int .i64 x1, .string x2, .int .i64 x3, .int .i64 x4, .int .i64 x5, .int .i64 x6, .int .u32 x7, .int .i64 x8] 53) HSZ.out)
      have HCA := Lib.hid (enc1_any (HO.out.alloc (.cells #[.string x0, .int .i64 x1, .string x2, .int .i64 x3, .int .i64 x4, .int .i64 x5, .int .i64 x6, .int .u32 x7, .int .i64 x8] 53)) (Nat.le_trans HSZ.out HGA.out.size) (by omega) x0 x1 x2 x3 x4 x5 x6 x7 x8 hxN)
      clear hsc9 hsl hok hx hxN
      go_wp2_with fail
      refine HCA.out.mono ?_
      rintro e w3 ⟨v3, rfl, ho3, hg3⟩
      obtain ⟨a3, c3, rfl⟩ := own_slice ho3
      rw [List.append_assoc, secC_s entC EntS.z le en j HX.out] at ho3
      have HG3 := Lib.hid ((HGB.out.trans HGA.out).trans hg3)
      have HM3 := Lib.hid (show m + (entC ⟨x0, x1, x2, x3, x4, x5, x6, x7, x8⟩).length = n + (secC entC EntS.z le en (j + 1)).length from by rw [← secC_s entC EntS.z le en j HX.out, List.length_append, HM.out]; omega)
      have HO3 := Lib.hid ho3
      clear ho3 hg3 d0 d1 d2 d3 d4 d5 d6 d7 d8
      go_wp2_with fail
      go_roundw
      case rel => exact ⟨j + 1, _, c3, a3, by omega, by go_num, rfl, HM3, HO3, HG3⟩
      case measure => simp [intOf]; omega
    · obtain rfl : j = en := by omega
      have HOF := Lib.hid (show wr.ownsRow base 5 1 (.slice a9 m c9) (n + (secC entC EntS.z le j j).length) (bv (xs ++ secC entC EntS.z le j j)) from by rw [← HM.out]; exact HO.out)
      clear hjn
      go_wp2_with fail
      go_ret
      exact ⟨_, rfl, HOF.out, HGB.out⟩

set_option maxRecDepth 100000 in
set_option maxHeartbeats 4000000 in
theorem allM_any {w : World} {base n en ec : Nat} {v : Value} {xs : List Nat} {ea : Option Addr} {le : List (Int × Int)} (ho : w.ownsRow base 5 1 v n (bv xs)) (hbs : base ≤ w.heap.size) (hn : n ≤ 70000000) (hE : ∀ W, Below base w W → VecAt MarkS W ea en ec le) (hen : en ≤ 300) (hN : ∀ x ∈ le, MarkNat x) :
    Calls Tryz.prog 25 #[v, .slice ea en ec, .func (.func 26) #[] #[]] w fun e w' => ∃ v', e = .returned v' ∧ w'.ownsRow base 5 1 v' (n + (secC markC MarkS.z le en en).length) (bv (xs ++ secC markC MarkS.z le en en)) ∧ Gb base w w' := by
  have hv := hE w (Below.refl _ _)
  have hcap := hv.cap
  have hcm := hv.capm
  have HLE := Lib.hid hv.len
  have HEE := Lib.hid hE
  have HNN := Lib.hid hN
  have HBS := Lib.hid hbs
  have HN1 := Lib.hid (mnums_lit (.inl ho) hbs (by omega) [en] #[.int .i64 (en : Int)] 1 rfl rfl (fun z hz => by rw [List.mem_singleton.1 hz]; omega) (by decide) (by decide))
  clear hv hE hN ho hbs
  go_enter Tryz.func25, Tryz.ntmps25
  go_wp2_with fail
  refine HN1.out.mono ?_
  rintro e w1 ⟨v1, rfl, ho1, hg1⟩
  obtain ⟨a1, c1, rfl⟩ := own_slice ho1
  have HO1 := Lib.hid (show w1.ownsRow base 5 1 (.slice a1 (n + (nI [en]).length) c1) (n + (nI [en]).length) (bv (xs ++ secC markC MarkS.z le en 0)) from by rw [secC_0]; exact ho1)
  have HM1 := Lib.hid (show n + (nI [en]).length = n + (secC markC MarkS.z le en 0).length from by rw [secC_0])
  have HG1 := Lib.hid hg1
  clear ho1 hg1
  go_wp2_with fail
  go_loopw [0, 8, 16] (fun s0 _ s16 wr => ∃ (j m c9 : Nat) (a9 : Option Addr), j ≤ en ∧ s16 = .int .i64 (j : Int) ∧ s0 = .slice a9 m c9 ∧ Hid (m = n + (secC markC MarkS.z le en j).length) ∧ Hid (wr.ownsRow base 5 1 (.slice a9 m c9) m (bv (xs ++ secC markC MarkS.z le en j))) ∧ Hid (Gb base w wr)) (fun _ _ s16 _ => en - (intOf s16).toNat)
  case atStart => exact ⟨0, _, c1, a1, by omega, rfl, rfl, HM1, HO1, HG1⟩
  case round =>
    clear HM1 HO1 HG1
    obtain ⟨j, m, c9, a9, hj, rfl, rfl, HM, HO, HGB⟩ := hrel
    rename World => wr
    by_cases hjn : j < en
    · have hji : (j : Int) < (en : Int) := by omega
      obtain ⟨sb, so, rfl, hsl, hok, hsc9⟩ := (HEE.out wr HGB.out.below).get hjn
      obtain ⟨x, hx⟩ : ∃ x, x = le.getD j MarkS.z := ⟨_, rfl⟩
      rw [← hx] at hsc9
      have hxN : MarkNat x := HNN.out x (by rw [hx]; exact vec_mem (S := MarkS) (by rw [HLE.out]; exact hjn))
      have HX := Lib.hid hx
      have hm : m ≤ 79000000 := by
        have h1 := HM.out
        have h2 := secC_len (f := markC) (n := en) (d := MarkS.z) (by omega) (fun y hy => markC_len (HNN.out y hy)) (j := j) (by rw [HLE.out]; omega) (by omega)
        omega
      have HSZ := Lib.hid (Nat.le_trans HBS.out HGB.out.size)
      obtain ⟨x0, x1⟩ := x
      have d0 : wr.cell? ⟨sb, so + j * 2, none⟩ = some (.int .i64 x0) := hsc9 0 _ rfl
      have d1 : wr.cell? ⟨sb, so + j * 2 + 1, none⟩ = some (.int .i64 x1) := hsc9 1 _ rfl
      have HGA := Lib.hid (Gb.alloc wr (.cells #[.int .i64 x0, .int .i64 x1] 43) HSZ.out)
      have HCA := Lib.hid (enc2_any (HO.out.alloc (.cells #[.int .i64 x0, .int .i64 x1] 43)) (Nat.le_trans HSZ.out HGA.out.size) (by omega) x0 x1 hxN)
      clear hsc9 hsl hok hx hxN
      go_wp2_with fail
      refine HCA.out.mono ?_
      rintro e w3 ⟨v3, rfl, ho3, hg3⟩
      obtain ⟨a3, c3, rfl⟩ := own_slice ho3
      rw [List.append_assoc, secC_s markC MarkS.z le en j HX.out] at ho3
      have HG3 := Lib.hid ((HGB.out.trans HGA.out).trans hg3)
      have HM3 := Lib.hid (show m + (markC (x0, x1)).length = n + (secC markC MarkS.z le en (j + 1)).length from by rw [← secC_s markC MarkS.z le en j HX.out, List.length_append, HM.out]; omega)
      have HO3 := Lib.hid ho3
      clear ho3 hg3 d0 d1
      go_wp2_with fail
      go_roundw
      case rel => exact ⟨j + 1, _, c3, a3, by omega, by go_num, rfl, HM3, HO3, HG3⟩
      case measure => simp [intOf]; omega
    · obtain rfl : j = en := by omega
      have HOF := Lib.hid (show wr.ownsRow base 5 1 (.slice a9 m c9) (n + (secC markC MarkS.z le j j).length) (bv (xs ++ secC markC MarkS.z le j j)) from by rw [← HM.out]; exact HO.out)
      clear hjn
      go_wp2_with fail
      go_ret
      exact ⟨_, rfl, HOF.out, HGB.out⟩

set_option maxRecDepth 100000 in
set_option maxHeartbeats 4000000 in
theorem allO_any {w : World} {base n en ec : Nat} {v : Value} {xs : List Nat} {ea : Option Addr} {le : List (Int × Int × Int)} (ho : w.ownsRow base 5 1 v n (bv xs)) (hbs : base ≤ w.heap.size) (hn : n ≤ 70000000) (hE : ∀ W, Below base w W → VecAt OwnS W ea en ec le) (hen : en ≤ 300) (hN : ∀ x ∈ le, OwnNat x) :
    Calls Tryz.prog 27 #[v, .slice ea en ec, .func (.func 28) #[] #[]] w fun e w' => ∃ v', e = .returned v' ∧ w'.ownsRow base 5 1 v' (n + (secC ownC OwnS.z le en en).length) (bv (xs ++ secC ownC OwnS.z le en en)) ∧ Gb base w w' := by
  have hv := hE w (Below.refl _ _)
  have hcap := hv.cap
  have hcm := hv.capm
  have HLE := Lib.hid hv.len
  have HEE := Lib.hid hE
  have HNN := Lib.hid hN
  have HBS := Lib.hid hbs
  have HN1 := Lib.hid (mnums_lit (.inl ho) hbs (by omega) [en] #[.int .i64 (en : Int)] 1 rfl rfl (fun z hz => by rw [List.mem_singleton.1 hz]; omega) (by decide) (by decide))
  clear hv hE hN ho hbs
  go_enter Tryz.func27, Tryz.ntmps27
  go_wp2_with fail
  refine HN1.out.mono ?_
  rintro e w1 ⟨v1, rfl, ho1, hg1⟩
  obtain ⟨a1, c1, rfl⟩ := own_slice ho1
  have HO1 := Lib.hid (show w1.ownsRow base 5 1 (.slice a1 (n + (nI [en]).length) c1) (n + (nI [en]).length) (bv (xs ++ secC ownC OwnS.z le en 0)) from by rw [secC_0]; exact ho1)
  have HM1 := Lib.hid (show n + (nI [en]).length = n + (secC ownC OwnS.z le en 0).length from by rw [secC_0])
  have HG1 := Lib.hid hg1
  clear ho1 hg1
  go_wp2_with fail
  go_loopw [0, 8, 16] (fun s0 _ s16 wr => ∃ (j m c9 : Nat) (a9 : Option Addr), j ≤ en ∧ s16 = .int .i64 (j : Int) ∧ s0 = .slice a9 m c9 ∧ Hid (m = n + (secC ownC OwnS.z le en j).length) ∧ Hid (wr.ownsRow base 5 1 (.slice a9 m c9) m (bv (xs ++ secC ownC OwnS.z le en j))) ∧ Hid (Gb base w wr)) (fun _ _ s16 _ => en - (intOf s16).toNat)
  case atStart => exact ⟨0, _, c1, a1, by omega, rfl, rfl, HM1, HO1, HG1⟩
  case round =>
    clear HM1 HO1 HG1
    obtain ⟨j, m, c9, a9, hj, rfl, rfl, HM, HO, HGB⟩ := hrel
    rename World => wr
    by_cases hjn : j < en
    · have hji : (j : Int) < (en : Int) := by omega
      obtain ⟨sb, so, rfl, hsl, hok, hsc9⟩ := (HEE.out wr HGB.out.below).get hjn
      obtain ⟨x, hx⟩ : ∃ x, x = le.getD j OwnS.z := ⟨_, rfl⟩
      rw [← hx] at hsc9
      have hxN : OwnNat x := HNN.out x (by rw [hx]; exact vec_mem (S := OwnS) (by rw [HLE.out]; exact hjn))
      have HX := Lib.hid hx
      have hm : m ≤ 79000000 := by
        have h1 := HM.out
        have h2 := secC_len (f := ownC) (n := en) (d := OwnS.z) (by omega) (fun y hy => ownC_len (HNN.out y hy)) (j := j) (by rw [HLE.out]; omega) (by omega)
        omega
      have HSZ := Lib.hid (Nat.le_trans HBS.out HGB.out.size)
      obtain ⟨x0, x1, x2⟩ := x
      have d0 : wr.cell? ⟨sb, so + j * 3, none⟩ = some (.int .i64 x0) := hsc9 0 _ rfl
      have d1 : wr.cell? ⟨sb, so + j * 3 + 1, none⟩ = some (.int .i64 x1) := hsc9 1 _ rfl
      have d2 : wr.cell? ⟨sb, so + j * 3 + 2, none⟩ = some (.int .i64 x2) := hsc9 2 _ rfl
      have HGA := Lib.hid (Gb.alloc wr (.cells #[.int .i64 x0, .int .i64 x1, .int .i64 x2] 45) HSZ.out)
      have HCA := Lib.hid (enc3_any (HO.out.alloc (.cells #[.int .i64 x0, .int .i64 x1, .int .i64 x2] 45)) (Nat.le_trans HSZ.out HGA.out.size) (by omega) x0 x1 x2 hxN)
      clear hsc9 hsl hok hx hxN
      go_wp2_with fail
      refine HCA.out.mono ?_
      rintro e w3 ⟨v3, rfl, ho3, hg3⟩
      obtain ⟨a3, c3, rfl⟩ := own_slice ho3
      rw [List.append_assoc, secC_s ownC OwnS.z le en j HX.out] at ho3
      have HG3 := Lib.hid ((HGB.out.trans HGA.out).trans hg3)
      have HM3 := Lib.hid (show m + (ownC (x0, x1, x2)).length = n + (secC ownC OwnS.z le en (j + 1)).length from by rw [← secC_s ownC OwnS.z le en j HX.out, List.length_append, HM.out]; omega)
      have HO3 := Lib.hid ho3
      clear ho3 hg3 d0 d1 d2
      go_wp2_with fail
      go_roundw
      case rel => exact ⟨j + 1, _, c3, a3, by omega, by go_num, rfl, HM3, HO3, HG3⟩
      case measure => simp [intOf]; omega
    · obtain rfl : j = en := by omega
      have HOF := Lib.hid (show wr.ownsRow base 5 1 (.slice a9 m c9) (n + (secC ownC OwnS.z le j j).length) (bv (xs ++ secC ownC OwnS.z le j j)) from by rw [← HM.out]; exact HO.out)
      clear hjn
      go_wp2_with fail
      go_ret
      exact ⟨_, rfl, HOF.out, HGB.out⟩

/-- what a right manifest's numbers are, where its texts aren't too long -/
theorem man_nat {pf : ByteArray → Int} {s d hz : Int} {en : Nat} {le : List EntV} {mn : Nat} {lm : List (Int × Int)} {on : Nat} {lo : List (Int × Int × Int)} (h : IsMan pf s d hz en le mn lm on lo) (hle : le.length = en) (hlm : lm.length = mn) (hlo : lo.length = on) (hk : ∀ x ∈ le, x.key.size ≤ 100 ∧ x.part.size ≤ 1300) (hsum : ∀ x ∈ le, 0 ≤ x.sum ∧ x.sum ≤ 4294967295) :
    (InR s ∧ InR d ∧ InR hz) ∧ (∀ x ∈ le, EntNat x) ∧ (∀ x ∈ lm, MarkNat x) ∧ (∀ x ∈ lo, OwnNat x) := by
  obtain ⟨h1, h2, h3, h4, h5⟩ := h
  simp only [withinB, Bool.and_eq_true, decide_eq_true_eq] at h1
  refine ⟨⟨⟨h1.1.1, h1.1.2⟩, ⟨h1.2.1.1, h1.2.1.2⟩, ⟨h1.2.2.1, h1.2.2.2⟩⟩, fun x hx => ?_, fun x hx => ?_, fun x hx => ?_⟩
  · obtain ⟨j, hj, e⟩ := List.getElem_of_mem hx
    have e2 : le.getD j EntS.z = x := by simp [hj, e]
    have h6 := (h3 j (by omega)).1
    rw [e2] at h6
    simp only [stayB, entB, withinB, Bool.and_eq_true, decide_eq_true_eq] at h6
    have h7 := hk x hx
    have h8 := hsum x hx
    refine ⟨h7.1, h7.2, ⟨?_, ?_⟩, ⟨?_, ?_⟩, ⟨?_, ?_⟩, ⟨?_, ?_⟩, ⟨?_, ?_⟩, ⟨?_, ?_⟩, ⟨?_, ?_⟩⟩ <;> omega
  · obtain ⟨j, hj, e⟩ := List.getElem_of_mem hx
    have e2 : lm.getD j MarkS.z = x := by simp [hj, e]
    have h6 := (h4 j (by omega)).1
    rw [e2] at h6
    simp only [isMarkB, withinB, Bool.and_eq_true, decide_eq_true_eq] at h6
    refine ⟨⟨?_, ?_⟩, ⟨?_, ?_⟩⟩ <;> omega
  · obtain ⟨j, hj, e⟩ := List.getElem_of_mem hx
    have e2 : lo.getD j OwnS.z = x := by simp [hj, e]
    have h6 := (h5 j (by omega)).1
    rw [e2] at h6
    simp only [isOwnB, withinB, Bool.and_eq_true, decide_eq_true_eq] at h6
    refine ⟨⟨?_, ?_⟩, ⟨?_, ?_⟩, ⟨?_, ?_⟩⟩ <;> omega
theorem manC_len {s d hz : Int} {le : List EntV} {lm : List (Int × Int)} {lo : List (Int × Int × Int)} (h1 : InR s ∧ InR d ∧ InR hz) (h2 : ∀ x ∈ le, EntNat x) (h3 : ∀ x ∈ lm, MarkNat x) (h4 : ∀ x ∈ lo, OwnNat x) (l2 : le.length ≤ 300) (l3 : lm.length ≤ 100) (l4 : lo.length ≤ 20) : (manC s d hz le lm lo).length ≤ 990000 := by
  obtain ⟨a, b, c⟩ := h1
  unfold InR at a b c
  have e1 := nI_bnd (l := [s.toNat, d.toNat, hz.toNat]) (m := 30) (fun z hz => by simp at hz; omega) (by simp)
  have e2 := secC_len (f := entC) (n := le.length) (d := EntS.z) (by omega) (fun y hy => entC_len (h2 y hy)) (Nat.le_refl le.length) (by omega)
  have e3 := sqC_len (f := markC) (d := MarkS.z) (m := 1500) (fun y hy => markC_len (h3 y hy)) lm.length (Nat.le_refl _)
  have e4 := sqC_len (f := ownC) (d := OwnS.z) (m := 1500) (fun y hy => ownC_len (h4 y hy)) lo.length (Nat.le_refl _)
  have e5 : lm.length * 1500 ≤ 100 * 1500 := Nat.mul_le_mul_right _ l3
  have e6 : lo.length * 1500 ≤ 20 * 1500 := Nat.mul_le_mul_right _ l4
  have e7 := nI_bnd (l := [lm.length]) (m := 10) (fun z hz => by simp at hz; omega) (by simp)
  have e8 := nI_bnd (l := [lo.length]) (m := 10) (fun z hz => by simp at hz; omega) (by simp)
  unfold manC
  rw [List.length_append, List.length_append, List.length_append, List.length_append]
  show [77, 65, 78, 73, 1].length + _ + _ + (secC markC MarkS.z lm lm.length lm.length).length + (secC ownC OwnS.z lo lo.length lo.length).length ≤ _
  unfold secC at e2 ⊢
  rw [List.length_append] at e2
  rw [List.length_append, List.length_append, List.length_append]
  simp only [List.length_cons, List.length_nil]
  omega
theorem manC_byte {s d hz : Int} {le : List EntV} {lm : List (Int × Int)} {lo : List (Int × Int × Int)} (h1 : InR s ∧ InR d ∧ InR hz) (h2 : ∀ x ∈ le, EntNat x) (h3 : ∀ x ∈ lm, MarkNat x) (h4 : ∀ x ∈ lo, OwnNat x) (l2 : le.length ≤ 300) (l3 : lm.length ≤ 100) (l4 : lo.length ≤ 20) : ∀ y ∈ manC s d hz le lm lo, y < 256 := by
  obtain ⟨a, b, c⟩ := h1
  unfold InR at a b c
  intro y hy
  rcases List.mem_append.1 hy with g | g
  · rcases List.mem_append.1 g with g | g
    · rcases List.mem_append.1 g with g | g
      · rcases List.mem_append.1 g with g | g
        · simp at g; omega
        · exact nI_byte _ (fun z hz => by simp at hz; omega) y g
      · exact secC_byte (by omega) (fun x hx => entC_byte (h2 x hx)) (Nat.le_refl _) y g
    · exact secC_byte (by omega) (fun x hx => markC_byte (h3 x hx)) (Nat.le_refl _) y g
  · exact secC_byte (by omega) (fun x hx => ownC_byte (h4 x hx)) (Nat.le_refl _) y g

theorem BytesAt.litF (w : World) (cs : Array Value) (l : List Nat) (fz : Nat × Nat) (hcs : cs.toList = bv l) (hl : ∀ x ∈ l, x < 256) (hr : l.length ≤ 140737488351232) :
    BytesAt (w.alloc (.cells cs 5 fz)) (some ⟨w.heap.size, 0, none⟩) l.length l.length l := by
  refine ⟨rfl, Nat.le_refl _, hl, hr, by omega, (fun e => by cases e), fun hp => ⟨w.heap.size, 0, rfl, (Array.getElem?_eq_some_iff.1 (heap_alloc_new w _)).1, fun i hi => ?_⟩⟩
  rw [Nat.zero_add, cell_of_row _ w.heap.size _ _ _ fz (heap_alloc_new w _), ← Array.getElem?_toList, hcs, bv_get l i hi]
def EncIs (C : List Nat) (n : Nat) (e : Ending) (w' : World) : Prop := ∃ a c, e = .returned (.tuple #[.slice a n c, .int .i64 0]) ∧ BytesAt w' a n c (sealed C)
set_option maxRecDepth 100000 in
set_option maxHeartbeats 8000000 in
theorem mencode_nat {w : World} (hT : Table w) (pf : ByteArray → Int) {ns nd nh : Nat} {ea ma oa : Option Addr} {en ec mn mc on oc : Nat} {le : List EntV} {lm : List (Int × Int)} {lo : List (Int × Int × Int)} (hE : VecAt EntS w ea en ec le) (hM : VecAt MarkS w ma mn mc lm) (hO : VecAt OwnS w oa on oc lo) (hP : ∀ (W : World) (x : EntV), x ∈ le → Below w.heap.size w W → Calls Tryz.prog 82 #[.string x.part] W fun e w' => ParIs (pf x.part) e ∧ Below W.heap.size W w')
    (h : IsMan pf ns nd nh en le mn lm on lo) (hk : ∀ x ∈ le, x.key.size ≤ 100 ∧ x.part.size ≤ 1300) (hmn : mn ≤ 100) (hon : on ≤ 20) :
    Calls Tryz.prog 9 #[.agg #[.int .i64 (ns : Int), .int .i64 (nd : Int), .int .i64 (nh : Int), .slice ea en ec, .slice ma mn mc, .slice oa on oc]] w fun e w' => EncIs (manC ns nd nh le lm lo) ((manC ns nd nh le lm lo).length + 4) e w' ∧ Below w.heap.size w w' := by
  obtain ⟨hI, hNE, hNM, hNO⟩ := man_nat h hE.len hM.len hO.len hk (fun x hx => (hE.all x hx).2.2)
  obtain ⟨wa, hwa⟩ : ∃ wa, wa = w.alloc (.cells #[.int .i64 (ns : Int), .int .i64 (nd : Int), .int .i64 (nh : Int), .slice ea en ec, .slice ma mn mc, .slice oa on oc] 26) := ⟨_, rfl⟩
  have ba : Below w.heap.size w wa := by rw [hwa]; exact (Below.refl _ _).alloc (Nat.le_refl _) _
  have ga : wa.heap[w.heap.size]? = some (.cells #[.int .i64 (ns : Int), .int .i64 (nd : Int), .int .i64 (nh : Int), .slice ea en ec, .slice ma mn mc, .slice oa on oc] 26 (0, 0)) := by rw [hwa]; exact heap_alloc_new _ _
  have hen : en ≤ 300 := by have := h.2.1; omega
  have HR := Lib.hid (mright_any pf (hE.kept ba) (hM.kept ba) (hO.kept ba) (s := ns) (d := nd) (hz := nh) (fun W x hx hb => hP W x hx (ba.trans (hb.mono ba.size))))
  have HIM := Lib.hid h
  have HLEN := Lib.hid (manC_len hI hNE hNM hNO (by rw [hE.len]; exact hen) (by rw [hM.len]; exact hmn) (by rw [hO.len]; exact hon))
  have HBY := Lib.hid (manC_byte hI hNE hNM hNO (by rw [hE.len]; exact hen) (by rw [hM.len]; exact hmn) (by rw [hO.len]; exact hon))
  have HLS := Lib.hid (show (secC entC EntS.z le en en).length ≤ 450010 ∧ (secC markC MarkS.z lm mn mn).length ≤ 450010 ∧ (secC ownC OwnS.z lo on on).length ≤ 450010 from ⟨secC_len (f := entC) (by omega) (fun y hy => entC_len (hNE y hy)) (by rw [hE.len]; omega) (by omega), secC_len (f := markC) (by omega) (fun y hy => markC_len (hNM y hy)) (by rw [hM.len]; omega) (by omega), secC_len (f := ownC) (by omega) (fun y hy => ownC_len (hNO y hy)) (by rw [hO.len]; omega) (by omega)⟩)
  have HMC := Lib.hid (show manC ns nd nh le lm lo = (((([77, 65, 78, 73, 1] ++ nI [ns, nd, nh]) ++ secC entC EntS.z le en en) ++ secC markC MarkS.z lm mn mn) ++ secC ownC OwnS.z lo on on) from by unfold manC; rw [hE.len, hM.len, hO.len]; rfl)
  have hb3 : ns ≤ 1099511627775 ∧ nd ≤ 1099511627775 ∧ nh ≤ 1099511627775 := by
    obtain ⟨a, b, c⟩ := hI
    unfold InR at a b c
    omega
  obtain ⟨CC, hCC⟩ : ∃ C, C = manC ns nd nh le lm lo := ⟨_, rfl⟩
  have l3 := nI_bnd (l := [ns, nd, nh]) (m := 30) (fun z hz => by simp at hz; omega) (by simp)
  have HT := Lib.hid hT
  have HE := Lib.hid hE
  have HM := Lib.hid hM
  have HO := Lib.hid hO
  have HNE := Lib.hid hNE
  have HNM := Lib.hid hNM
  have HNO := Lib.hid hNO
  have HBA := Lib.hid ba
  have HGA := Lib.hid ga
  have HWA := Lib.hid hwa
  rw [← hCC] at HLEN HBY HMC ⊢
  clear hT hE hM hO hP h hk hI hNE hNM hNO hwa ba ga hCC
  have a0 : wa.cell? ⟨w.heap.size, 0, none⟩ = some (.int .i64 (ns : Int)) := cell_blk9 HGA.out rfl
  have a1 : wa.cell? ⟨w.heap.size, 1, none⟩ = some (.int .i64 (nd : Int)) := cell_blk9 HGA.out rfl
  have a2 : wa.cell? ⟨w.heap.size, 2, none⟩ = some (.int .i64 (nh : Int)) := cell_blk9 HGA.out rfl
  have a3 : wa.cell? ⟨w.heap.size, 3, none⟩ = some (.slice ea en ec) := cell_blk9 HGA.out rfl
  have a4 : wa.cell? ⟨w.heap.size, 4, none⟩ = some (.slice ma mn mc) := cell_blk9 HGA.out rfl
  have a5 : wa.cell? ⟨w.heap.size, 5, none⟩ = some (.slice oa on oc) := cell_blk9 HGA.out rfl
  go_enter Tryz.func9, Tryz.ntmps9
  go_wp2_with fail
  rw [← HWA.out]
  go_wp2_with fail
  refine HR.out.mono ?_
  rintro e w1 ⟨⟨b1, rfl, hb1⟩, hbl⟩
  obtain rfl : b1 = true := hb1.2 HIM.out
  have HB1 := Lib.hid (HBA.out.trans (hbl.mono HBA.out.size))
  have HG1 := Lib.hid ((hbl.block w.heap.size (Array.getElem?_eq_some_iff.1 HGA.out).1).trans HGA.out)
  have hlw : w.heap.size < w1.heap.size := (Array.getElem?_eq_some_iff.1 HG1.out).1
  clear hb1 hbl a0 a1 a2 a3 a4 a5
  have es : (w1.alloc (.cells #[.int .u8 77, .int .u8 65, .int .u8 78, .int .u8 73, .int .u8 1] 5 (5, 6))).heap.size = w1.heap.size + 1 := Array.size_push _
  have hN := mnums_lit (w := w1.alloc (.cells #[.int .u8 77, .int .u8 65, .int .u8 78, .int .u8 73, .int .u8 1] 5 (5, 6))) (base := w1.heap.size) (.inr ⟨_, rfl, BytesAt.litF w1 #[.int .u8 77, .int .u8 65, .int .u8 78, .int .u8 73, .int .u8 1] [77, 65, 78, 73, 1] (5, 6) rfl (by decide) (by decide)⟩) (by rw [es]; omega) (by decide) [ns, nd, nh] #[.int .i64 (ns : Int), .int .i64 (nd : Int), .int .i64 (nh : Int)] 3 rfl rfl (fun z hz => by simp at hz; omega) (by decide) (by decide)
  rw [es] at hN
  have HN := Lib.hid hN
  have HGD := Lib.hid (Gb.alloc (base := w1.heap.size) w1 (.cells #[.int .u8 77, .int .u8 65, .int .u8 78, .int .u8 73, .int .u8 1] 5 (5, 6)) (Nat.le_refl _))
  have hcv : (convert 30 30 (.slice (some ⟨w1.heap.size, 0, none⟩) 5 5)).run Tryz.prog (w1.alloc (.cells #[.int .u8 77, .int .u8 65, .int .u8 78, .int .u8 73, .int .u8 1] 5)) = .ok (.slice (some ⟨w1.heap.size, 0, none⟩) 5 5) (w1.alloc (.cells #[.int .u8 77, .int .u8 65, .int .u8 78, .int .u8 73, .int .u8 1] 5 (5, 6))) := Lib.run_convert_bytes_const w1 _ _ _ 5 5 Tryz.underlying30 Tryz.underlying5
  have a0 : w1.cell? ⟨w.heap.size, 0, none⟩ = some (.int .i64 (ns : Int)) := cell_blk9 HG1.out rfl
  have a1 : w1.cell? ⟨w.heap.size, 1, none⟩ = some (.int .i64 (nd : Int)) := cell_blk9 HG1.out rfl
  have a2 : w1.cell? ⟨w.heap.size, 2, none⟩ = some (.int .i64 (nh : Int)) := cell_blk9 HG1.out rfl
  clear hN es
  go_wp2_with fail
  refine HN.out.mono ?_
  rintro e w2 ⟨v2, rfl, ho2, hg2⟩
  obtain ⟨X2, hX2⟩ : ∃ X, X = [77, 65, 78, 73, 1] ++ nI [ns, nd, nh] := ⟨_, rfl⟩
  have e2 : [77, 65, 78, 73, 1].length + (nI [ns, nd, nh]).length = X2.length := by rw [hX2, List.length_append]
  have hl2 : X2.length ≤ 40 := by rw [← e2]; simp only [List.length_cons, List.length_nil]; omega
  rw [← hX2, e2] at ho2
  rw [← hX2] at HMC
  have HO2 := Lib.hid ho2
  have HG2 := Lib.hid (HGD.out.trans hg2)
  have HK2 := Lib.hid ((HG2.out.below.block w.heap.size hlw).trans HG1.out)
  have HB2 := Lib.hid (HB1.out.trans (HG2.out.below.mono HB1.out.size))
  have HA2 := Lib.hid (allE_any HO2.out HG2.out.size (by omega) (fun W hb => HE.out.kept (HB2.out.trans (hb.mono HB1.out.size))) hen HNE.out)
  have b3 : w2.cell? ⟨w.heap.size, 3, none⟩ = some (.slice ea en ec) := cell_blk9 HK2.out rfl
  clear hX2 e2 ho2 hg2 hcv a0 a1 a2
  go_wp2_with fail
  refine HA2.out.mono ?_
  rintro e w3 ⟨v3, rfl, ho3, hg3⟩
  obtain ⟨X3, hX3⟩ : ∃ X, X = X2 ++ secC entC EntS.z le en en := ⟨_, rfl⟩
  have e3 : X2.length + (secC entC EntS.z le en en).length = X3.length := by rw [hX3, List.length_append]
  have hl3 : X3.length ≤ 450050 := by have := HLS.out.1; omega
  rw [← hX3, e3] at ho3
  rw [← hX3] at HMC
  have HO3 := Lib.hid ho3
  have HG3 := Lib.hid (HG2.out.trans hg3)
  have HK3 := Lib.hid ((HG3.out.below.block w.heap.size hlw).trans HG1.out)
  have HB3 := Lib.hid (HB1.out.trans (HG3.out.below.mono HB1.out.size))
  have HA3 := Lib.hid (allM_any HO3.out HG3.out.size (by omega) (fun W hb => HM.out.kept (HB3.out.trans (hb.mono HB1.out.size))) (by omega) HNM.out)
  have b4 : w3.cell? ⟨w.heap.size, 4, none⟩ = some (.slice ma mn mc) := cell_blk9 HK3.out rfl
  clear hX3 e3 ho3 hg3 b3
  go_wp2_with fail
  refine HA3.out.mono ?_
  rintro e w4 ⟨v4, rfl, ho4, hg4⟩
  obtain ⟨X4, hX4⟩ : ∃ X, X = X3 ++ secC markC MarkS.z lm mn mn := ⟨_, rfl⟩
  have e4 : X3.length + (secC markC MarkS.z lm mn mn).length = X4.length := by rw [hX4, List.length_append]
  have hl4 : X4.length ≤ 900060 := by have := HLS.out.2.1; omega
  rw [← hX4, e4] at ho4
  rw [← hX4] at HMC
  have HO4 := Lib.hid ho4
  have HG4 := Lib.hid (HG3.out.trans hg4)
  have HK4 := Lib.hid ((HG4.out.below.block w.heap.size hlw).trans HG1.out)
  have HB4 := Lib.hid (HB1.out.trans (HG4.out.below.mono HB1.out.size))
  have HA4 := Lib.hid (allO_any HO4.out HG4.out.size (by omega) (fun W hb => HO.out.kept (HB4.out.trans (hb.mono HB1.out.size))) (by omega) HNO.out)
  have b5 : w4.cell? ⟨w.heap.size, 5, none⟩ = some (.slice oa on oc) := cell_blk9 HK4.out rfl
  clear hX4 e4 ho4 hg4 b4
  go_wp2_with fail
  refine HA4.out.mono ?_
  rintro e w5 ⟨v5, rfl, ho5, hg5⟩
  rw [← HMC.out, show X4.length + (secC ownC OwnS.z lo on on).length = CC.length from by rw [HMC.out, List.length_append]] at ho5
  have HG5 := Lib.hid (HG4.out.trans hg5)
  have HB5 := Lib.hid (HB1.out.trans (HG5.out.below.mono HB1.out.size))
  have hlc := HLEN.out
  obtain ⟨a9, c9, rfl, hb9, _⟩ := BytesAt.ofOwn ho5 HBY.out (by omega)
  have HS := Lib.hid (seal_any (HT.out.below HB5.out) hb9 (by omega))
  clear ho5 hg5 hb9 b5
  go_wp2_with fail
  refine HS.out.mono ?_
  rintro e w6 ⟨a8, c8, rfl, hb8, hbl8, _⟩
  have H8 := Lib.hid hb8
  have HB8 := Lib.hid (HB5.out.trans (hbl8.mono HB5.out.size))
  clear hb8 hbl8
  go_wp2_with fail
  go_ret2
  exact ⟨⟨_, _, rfl, H8.out⟩, HB8.out⟩
end Go.Proofs.YtbdgcfimbblncaaGreatDoor
end PkMB5_8
section PkMB5_9
/- Package label's isLetter and isName, walked. -/
namespace Go.Proofs.YtbdgcfimbblncaaGreatDoor
open Go.RowKit LabPlain
set_option linter.unusedVariables false

set_option maxHeartbeats 400000 in
theorem isletter_any (c : Nat) (hc : c < 256) (w : World) :
    Calls Tryz.prog 178 #[.int .u8 (c : Int)] w fun e w' => e = .returned (.bool (isL c)) ∧ w = w' := by
  by_cases h1 : 97 ≤ c
  · have h1i : (97 : Int) ≤ (c : Int) := by omega
    cases h2 : decide (c ≤ 122) with
    | true =>
      have hR := Lib.hid (show isL c = true by unfold isL; rw [h2, decide_eq_true h1]; rfl)
      have h2i : decide ((c : Int) ≤ 122) = true := by rw [decide_eq_true_eq] at h2 ⊢; omega
      clear h1 h2
      go_enter Tryz.func178, Tryz.ntmps178
      go_wp2_with fail
      go_ret
      rw [hR.out]; exact ⟨rfl, rfl⟩
    | false =>
      have hR := Lib.hid (show isL c = false by unfold isL; rw [h2, Bool.and_false])
      have h2i : decide ((c : Int) ≤ 122) = false := by rw [decide_eq_false_iff_not] at h2 ⊢; omega
      clear h1 h2
      go_enter Tryz.func178, Tryz.ntmps178
      go_wp2_with fail
      go_ret
      rw [hR.out]; exact ⟨rfl, rfl⟩
  · have hR := Lib.hid (show isL c = false by simp [isL, h1])
    have h1i : (c : Int) < 97 := by omega
    clear h1
    go_enter Tryz.func178, Tryz.ntmps178
    go_wp2_with fail
    go_ret
    rw [hR.out]; exact ⟨rfl, rfl⟩

set_option maxRecDepth 100000 in
set_option maxHeartbeats 1000000 in
theorem isname_any (s : ByteArray) (hs : s.size ≤ 9223372036854775807) (w : World) :
    Calls Tryz.prog 158 #[.string s] w fun e w' => e = .returned (.bool (isNm s)) ∧ w = w' := by
  by_cases h1 : s.size < 1
  · have hR := Lib.hid (show isNm s = false by unfold isNm; simp [show ¬ 1 ≤ s.size by omega])
    have h1i : (s.size : Int) < 1 := by omega
    clear h1
    go_enter Tryz.func158, Tryz.ntmps158
    go_wp2_with fail
    go_ret
    rw [hR.out]; exact ⟨rfl, rfl⟩
  · by_cases h8 : 8 < s.size
    · have hR := Lib.hid (show isNm s = false by unfold isNm; simp [show ¬ s.size ≤ 8 by omega])
      have h1i : (1 : Int) ≤ (s.size : Int) := by omega
      have h8i : (8 : Int) < (s.size : Int) := by omega
      clear h1 h8
      go_enter Tryz.func158, Tryz.ntmps158
      go_wp2_with fail
      go_ret
      rw [hR.out]; exact ⟨rfl, rfl⟩
    · have h1i : (1 : Int) ≤ (s.size : Int) := by omega
      have h8i : (s.size : Int) ≤ 8 := by omega
      have h0 : 0 < s.size := by omega
      obtain ⟨c0, hc0⟩ : ∃ c0, c0 = at_ s 0 := ⟨_, rfl⟩
      have hs0 : (s[0]'h0).toNat = c0 := by rw [hc0, at_get s 0 h0]
      have hc256 : c0 < 256 := by rw [hc0]; exact at_lt s 0
      have HC0 := Lib.hid hc0
      have h18 : decide (1 ≤ s.size) = true ∧ decide (s.size ≤ 8) = true := ⟨decide_eq_true (by omega), decide_eq_true (by omega)⟩
      have H18 := Lib.hid h18
      clear h1 h8 hc0 h18
      cases hl : isL c0 with
      | false =>
        have hR := Lib.hid (show isNm s = false by unfold isNm; rw [← HC0.out, hl]; simp)
        have hlt := isletter_any c0 hc256 w
        rw [hl] at hlt
        have HL := Lib.hid hlt
        clear hlt hl
        go_enter Tryz.func158, Tryz.ntmps158
        go_wp2_with fail
        refine HL.out.mono ?_
        rintro e w1 ⟨rfl, rfl⟩
        go_wp2_with fail
        go_ret
        rw [hR.out]; exact ⟨rfl, rfl⟩
      | true =>
        have hR := Lib.hid (show isNm s = allC s s.size by unfold isNm; rw [← HC0.out, hl, H18.out.1, H18.out.2]; simp)
        have hlt := isletter_any c0 hc256 w
        rw [hl] at hlt
        have HL := Lib.hid hlt
        clear hlt hl
        go_enter Tryz.func158, Tryz.ntmps158
        go_wp2_with fail
        refine HL.out.mono ?_
        rintro e w1 ⟨rfl, rfl⟩
        go_wp2_with fail
        clear hs0
        go_loop [21] (fun s21 => ∃ k : Nat, k ≤ s.size ∧ s21 = .int .i64 (k : Int) ∧ Hid (allC s k = true)) (fun s21 => s.size - (intOf s21).toNat)
        case atStart => exact ⟨0, by omega, rfl, Lib.hid rfl⟩
        case round =>
          obtain ⟨k, hk, rfl, HA⟩ := hrel
          by_cases hks : k < s.size
          · obtain ⟨c, hc⟩ : ∃ c, c = at_ s k := ⟨_, rfl⟩
            have hsk : (s[k]'hks).toNat = c := by rw [hc, at_get s k hks]
            have hcl : c < 256 := by rw [hc]; exact at_lt s k
            have HCK := Lib.hid hc
            clear hc
            have hlt := isletter_any c hcl w
            cases hok : okC c with
            | true =>
              have HA2 := Lib.hid (show allC s (k + 1) = true by rw [allC, HA.out, ← HCK.out, hok]; rfl)
              cases hl : isL c with
              | true =>
                rw [hl] at hlt
                have HL := Lib.hid hlt
                clear hlt hl hok
                go_wp2_with fail
                refine HL.out.mono ?_
                rintro e w1 ⟨rfl, rfl⟩
                go_wp2_with fail
                go_round
                case rel => exact ⟨k + 1, by omega, by go_num, HA2⟩
                case measure => simp [intOf]; omega
              | false =>
                rw [hl] at hlt
                have HL := Lib.hid hlt
                have hcc : c = 95 ∨ (48 ≤ c ∧ c ≤ 57) := by
                  unfold okC at hok
                  rw [hl] at hok
                  simpa using hok
                clear hlt hl hok
                by_cases h95 : c = 95
                · have h95i : ((c : Int) != 95) = false := by rw [bne_eq_false_iff_eq]; omega
                  clear hcc h95
                  go_wp2_with fail
                  refine HL.out.mono ?_
                  rintro e w1 ⟨rfl, rfl⟩
                  go_wp2_with fail
                  go_round
                  case rel => exact ⟨k + 1, by omega, by go_num, HA2⟩
                  case measure => simp [intOf]; omega
                · have h95i : ((c : Int) != 95) = true := by rw [bne_iff_ne]; omega
                  have h48 : (48 : Int) ≤ (c : Int) := by omega
                  have h57 : (c : Int) ≤ 57 := by omega
                  clear hcc h95
                  go_wp2_with fail
                  refine HL.out.mono ?_
                  rintro e w1 ⟨rfl, rfl⟩
                  go_wp2_with fail
                  go_round
                  case rel => exact ⟨k + 1, by omega, by go_num, HA2⟩
                  case measure => simp [intOf]; omega
            | false =>
              have hl : isL c = false := by
                unfold okC at hok
                cases hl : isL c with
                | false => rfl
                | true => rw [hl] at hok; simp at hok
              rw [hl] at hlt
              have HL := Lib.hid hlt
              have hcc : c ≠ 95 ∧ (c < 48 ∨ 57 < c) := by
                unfold okC at hok
                rw [hl] at hok
                simp at hok
                omega
              have HF := Lib.hid (show isNm s = false by
                rw [hR.out]
                have := allC_no (s := s) (k := k) (by rw [← HCK.out]; exact hok) (s.size - (k + 1))
                rw [show k + 1 + (s.size - (k + 1)) = s.size from by omega] at this
                exact this)
              have h95i : ((c : Int) != 95) = true := by rw [bne_iff_ne]; omega
              clear hlt hl hok
              rcases hcc with ⟨h95, h48 | h57⟩
              · have h48i : (c : Int) < 48 := by omega
                clear h95 h48
                go_wp2_with fail
                refine HL.out.mono ?_
                rintro e w1 ⟨rfl, rfl⟩
                go_wp2_with fail
                go_ret
                rw [HF.out]; exact ⟨rfl, rfl⟩
              · have h57i : (57 : Int) < (c : Int) := by omega
                have h48i : (48 : Int) ≤ (c : Int) := by omega
                clear h95 h57
                go_wp2_with fail
                refine HL.out.mono ?_
                rintro e w1 ⟨rfl, rfl⟩
                go_wp2_with fail
                go_ret
                rw [HF.out]; exact ⟨rfl, rfl⟩
          · obtain rfl : k = s.size := by omega
            have HT := Lib.hid (show isNm s = true by rw [hR.out]; exact HA.out)
            clear hks
            go_wp2_with fail
            go_ret
            rw [HT.out]; exact ⟨rfl, rfl⟩
end Go.Proofs.YtbdgcfimbblncaaGreatDoor
end PkMB5_9
section PkMB5_10
/- A slice of labels, as a walk is told of it. -/
namespace Go.Proofs.YtbdgcfimbblncaaGreatDoor
open Go.RowKit LabPlain
set_option linter.unusedVariables false

structure LabsAt (w : World) (a : Option Addr) (n c : Nat) (l : List Lab) : Prop where
  len : l.length = n
  cap : n ≤ c
  capm : c ≤ 9223372036854775807
  nl : a = none → c = 0
  size : ∀ x ∈ l, x.1.size ≤ 140737488355328 ∧ x.2.size ≤ 140737488355328
  cells : 0 < n → ∃ b off, a = some ⟨b, off, none⟩ ∧ b < w.heap.size ∧ ∀ i, i < n → w.cell? ⟨b, off + i * 2, none⟩ = some (.string (l.getD i lab0).1) ∧ w.cell? ⟨b, off + i * 2 + 1, none⟩ = some (.string (l.getD i lab0).2)
theorem LabsAt.keep {w w' : World} {a : Option Addr} {n c : Nat} {l : List Lab} (h : LabsAt w a n c l) {B : Nat} (hb : Below B w w') (hB : w.heap.size ≤ B) : LabsAt w' a n c l :=
  ⟨h.len, h.cap, h.capm, h.nl, h.size, fun hn => by
    obtain ⟨b, off, ha, hlt, hc⟩ := h.cells hn
    exact ⟨b, off, ha, Nat.lt_of_lt_of_le hlt hb.size, fun i hi => ⟨(hb.cell (p := ⟨b, off + i * 2, none⟩) (Nat.lt_of_lt_of_le hlt hB)).trans (hc i hi).1, (hb.cell (p := ⟨b, off + i * 2 + 1, none⟩) (Nat.lt_of_lt_of_le hlt hB)).trans (hc i hi).2⟩⟩⟩
theorem LabsAt.kept {w w' : World} {a : Option Addr} {n c : Nat} {l : List Lab} (h : LabsAt w a n c l) (hb : Below w.heap.size w w') : LabsAt w' a n c l := h.keep hb (Nat.le_refl _)
theorem LabsAt.empty (w : World) (a : Option Addr) (c : Nat) (hc : c ≤ 9223372036854775807) (ha : a = none → c = 0) : LabsAt w a 0 c [] :=
  ⟨rfl, Nat.zero_le _, hc, ha, (fun x hx => by cases hx), fun h => absurd h (Nat.lt_irrefl 0)⟩
theorem lab_mem {l : List Lab} {i : Nat} (h : i < l.length) : l.getD i lab0 ∈ l := by
  have : l.getD i lab0 = l[i] := by simp [h]
  rw [this]; exact List.getElem_mem h
end Go.Proofs.YtbdgcfimbblncaaGreatDoor
end PkMB5_10
section PkMB5_11
/- Package label's Right, walked. -/
namespace Go.Proofs.YtbdgcfimbblncaaGreatDoor
open Go.RowKit LabPlain
set_option linter.unusedVariables false

theorem below_drewN {B : Nat} {a w : World} (h : Below B a w) (q : Nat) : Below B a (w.drewN q) := ⟨h.os, h.tape, h.output, h.size, h.block⟩

set_option maxRecDepth 100000 in
set_option maxHeartbeats 1000000 in
theorem right_any {w : World} {a : Option Addr} {n c : Nat} {l : List Lab} (h : LabsAt w a n c l) :
    Calls Tryz.prog 138 #[.slice a n c] w fun e w' => e = .returned (.bool (isSet l)) ∧ Below w.heap.size w w' := by
  have hlen := h.len
  have hcap := h.cap
  have hcm := h.capm
  have HH := Lib.hid h
  have HL := Lib.hid hlen
  clear h hlen
  by_cases h4 : 4 < n
  · have HR := Lib.hid (show isSet l = false by unfold isSet; rw [decide_eq_false (by rw [HL.out]; omega)]; rfl)
    have h4i : (4 : Int) < (n : Int) := by omega
    clear h4
    go_enter Tryz.func138, Tryz.ntmps138
    go_wp2_with fail
    go_ret
    rw [HR.out]; exact ⟨rfl, Below.refl _ _⟩
  · have h4i : (n : Int) ≤ 4 := by omega
    have HR := Lib.hid (show isSet l = upTo l n by unfold isSet; rw [decide_eq_true (by rw [HL.out]; omega), HL.out]; rfl)
    clear h4
    go_enter Tryz.func138, Tryz.ntmps138
    go_wp2_with fail
    go_loopw [10] (fun s10 wr => ∃ k : Nat, k ≤ n ∧ s10 = .int .i64 (k : Int) ∧ Hid (upTo l k = true) ∧ Hid (Below w.heap.size w wr)) (fun s10 _ => n - (intOf s10).toNat)
    case atStart => exact ⟨0, by omega, rfl, Lib.hid rfl, Lib.hid (Below.refl _ _)⟩
    case round =>
      obtain ⟨k, hk, rfl, HU, HB⟩ := hrel
      rename World => wr
      by_cases hkn : k < n
      · obtain ⟨b, off, rfl, hlt, hcell⟩ := (HH.out.kept HB.out).cells (by omega)
        obtain ⟨h1, h2⟩ := hcell k hkn
        have hsz := HH.out.size _ (lab_mem (l := l) (i := k) (by have := HL.out; omega))
        obtain ⟨x1, hx1⟩ : ∃ x, x = (l.getD k lab0).1 := ⟨_, rfl⟩
        obtain ⟨x2, hx2⟩ : ∃ x, x = (l.getD k lab0).2 := ⟨_, rfl⟩
        rw [← hx1] at h1 hsz
        rw [← hx2] at h2 hsz
        have HX1 := Lib.hid hx1
        have HX2 := Lib.hid hx2
        have HC := Lib.hid hcell
        have hno := fun (h : (isNm x1 && decide (x2.size ≤ 16) && (decide (k = 0) || ltB (l.getD (k - 1) lab0).1 x1)) = false) => (show isSet l = false by
          rw [HR.out]
          rw [HX1.out, HX2.out] at h
          have := upTo_no (l := l) (k := k) h (n - (k + 1))
          rw [show k + 1 + (n - (k + 1)) = n from by omega] at this
          exact this)
        have HNO := Lib.hid hno
        have hnm := isname_any x1 (by omega) (wr.alloc (.cells #[.string x1, .string x2] 150))
        have hb2 : Below w.heap.size w (wr.alloc (.cells #[.string x1, .string x2] 150)) := HB.out.alloc HB.out.size _
        have HB2 := Lib.hid hb2
        clear hx1 hx2 hcell hno hb2
        cases hn : isNm x1 with
        | false =>
          rw [hn] at hnm
          have HN := Lib.hid hnm
          have HF := Lib.hid (HNO.out (by rw [hn]; rfl))
          clear hnm hn
          go_wp2_with fail
          refine HN.out.mono ?_
          rintro e w2 ⟨rfl, rfl⟩
          go_wp2_with fail
          go_ret
          rw [HF.out]; exact ⟨rfl, HB2.out⟩
        | true =>
          rw [hn] at hnm
          have HN := Lib.hid hnm
          have HNM := Lib.hid hn
          clear hnm hn
          by_cases h16 : 16 < x2.size
          · have HF := Lib.hid (HNO.out (by rw [decide_eq_false (show ¬ x2.size ≤ 16 by omega), Bool.and_false]; rfl))
            have h16i : (16 : Int) < (x2.size : Int) := by omega
            clear h16
            go_wp2_with fail
            refine HN.out.mono ?_
            rintro e w2 ⟨rfl, rfl⟩
            go_wp2_with fail
            go_ret
            rw [HF.out]; exact ⟨rfl, HB2.out⟩
          · have h16i : (x2.size : Int) ≤ 16 := by omega
            have HD := Lib.hid (show decide (x2.size ≤ 16) = true from decide_eq_true (by omega))
            clear h16
            rcases Nat.eq_zero_or_pos k with rfl | hk0
            · rw [Nat.zero_mul, Nat.add_zero] at h1 h2
              have HU2 := Lib.hid (show upTo l (0 + 1) = true by rw [upTo, HU.out, ← HX1.out, ← HX2.out, HNM.out, HD.out]; rfl)
              go_wp2_with fail
              refine HN.out.mono ?_
              rintro e w2 ⟨rfl, rfl⟩
              go_wp2_with fail
              go_quiet (fail)
              rename Nat => nq
              go_wp2_with fail
              go_roundw
              case rel => exact ⟨1, by omega, by go_num, HU2, Lib.hid (below_drewN HB2.out nq)⟩
              case measure => simp [intOf]; omega
            · obtain ⟨j, rfl⟩ : ∃ j, k = j + 1 := ⟨k - 1, by omega⟩
              obtain ⟨y, hy⟩ : ∃ y, y = (l.getD j lab0).1 := ⟨_, rfl⟩
              have hcy := (HC.out j (by omega)).1
              rw [← hy] at hcy
              have hcy2 : (wr.alloc (.cells #[.string x1, .string x2] 150)).cell? ⟨b, off + j * 2, none⟩ = some (.string y) := by
                rw [← hcy]; exact ((Below.refl wr.heap.size wr).alloc (Nat.le_refl _) _).cell (p := ⟨b, off + j * 2, none⟩) hlt
              have HY := Lib.hid hy
              have hjn : (j : Int) < (n : Int) := by omega
              have hw1 : IntKind.i64.wrap (j : Int) = (j : Int) := IntWalk.i64_in _ (by omega)
              have hw2 : IntKind.i64.wrap ((j : Int) + 1 - 1) = (j : Int) := by rw [Int.add_sub_cancel]; exact hw1
              clear hy hcy hk0
              cases hlt2 : ltB y x1 with
              | true =>
                have hle : (Op.bytesLess x1.toList y.toList || x1.toList == y.toList) = false := by rw [leq_not, hlt2]; rfl
                have HU2 := Lib.hid (show upTo l (j + 1 + 1) = true by rw [upTo, HU.out, ← HX1.out, ← HX2.out, HNM.out, HD.out, Nat.add_sub_cancel, ← HY.out, hlt2]; simp)
                clear hlt2
                go_wp2_with fail
                refine HN.out.mono ?_
                rintro e w2 ⟨rfl, rfl⟩
                go_wp2_with fail
                go_quiet (fail)
                rename Nat => nq
                go_wp2_with fail
                go_roundw
                case rel => exact ⟨j + 1 + 1, by omega, by go_num, HU2, Lib.hid (below_drewN HB2.out nq)⟩
                case measure => simp [intOf]; omega
              | false =>
                have hle : (Op.bytesLess x1.toList y.toList || x1.toList == y.toList) = true := by rw [leq_not, hlt2]; rfl
                have HF := Lib.hid (HNO.out (by rw [Nat.add_sub_cancel, ← HY.out, hlt2]; simp))
                clear hlt2
                go_wp2_with fail
                refine HN.out.mono ?_
                rintro e w2 ⟨rfl, rfl⟩
                go_wp2_with fail
                go_quiet (fail)
                rename Nat => nq
                go_wp2_with fail
                go_ret
                rw [HF.out]; exact ⟨rfl, below_drewN HB2.out nq⟩
      · obtain rfl : k = n := by omega
        have HT := Lib.hid (show isSet l = true by rw [HR.out]; exact HU.out)
        clear hkn
        go_wp2_with fail
        go_ret
        rw [HT.out]; exact ⟨rfl, HB.out⟩
end Go.Proofs.YtbdgcfimbblncaaGreatDoor
end PkMB5_11
section PkMB5_12
/- append of bytes to bytes that the call owns, and where the new row lies; two rows kept apart. -/
namespace Go.Proofs.YtbdgcfimbblncaaGreatDoor
open Go.RowKit
set_option linter.unusedVariables false

theorem own_some2 {w : World} {base n : Nat} {e : TypeId} {size : Nat} {v : Value} {xs : List Value} (h : w.ownsRow base e size v n xs) (hn : 0 < n) : ∃ g c, v = .slice (some ⟨g, 0, none⟩) n c := by
  rcases h.2 with ⟨_, h0⟩ | ⟨g, cap, cur, he, _⟩
  · omega
  · exact ⟨g, cap, he⟩
theorem wpList_append_bytes_at {w : World} {ops : Array Oper} {rest : List Oper} {o : Oper} {a : Act} {Q : Exit → Act → World → Prop} (hgd : o.guard = none) (s x : Operand)
    (ho : o.op = .call { callee := .builtin .append, args := #[s, x], argTypes := #[30, 30] })
    (base : Nat) (v : Value) (n : Nat) (xs : List Nat) (hs : a.eval s = v) (hown : w.ownsRow base 5 1 v n (bv xs))
    (src : Option Addr) (m c : Nat) (ys : List Nat) (hx : a.eval x = .slice src m c) (hb : BytesAt w src m c ys)
    (h63 : n + m ≤ 140737488355328) (hbase : base ≤ w.heap.size)
    (h : ∀ v' w', w'.ownsRow base 5 1 v' (n + m) (bv (xs ++ ys)) → w.grownBy w' v.ownBlock → (v'.ownBlock = v.ownBlock ∨ v'.ownBlock = some w.heap.size) → wpList Tryz.prog ops Q rest (a.put o.dst v') w') : wpList Tryz.prog ops Q (o :: rest) a w := by
  obtain ⟨i0, hi, hz0, hz1, hz2⟩ := info_parts info_u8
  rcases src with _ | ad
  · have hc := hb.nl rfl
    have hm : m = 0 := by have := hb.cap; omega
    subst hm
    subst hc
    have hy : ys = [] := List.eq_nil_of_length_eq_zero hb.len
    subst hy
    refine wpList_append_own_none hgd s x 30 ho base 5 i0 1 Tryz.underlying30 hi v n (bv xs) hs hown hx ?_
    exact h v w (by simpa using hown) (World.grownBy.refl _ _) (.inl rfl)
  · refine wpList_append_own_at w hgd s x 30 ho base 5 i0 (.int .u8 0) 1 1 Tryz.underlying30 hi hz0 hz1 hz2 rfl (by decide) v n (bv xs) hs hown ad m c (bv ys) hx (by rw [bv_length, hb.len]; omega) hb.src (bv_oneCell _) (by unfold maxLen; omega) (by omega) hbase ?_
    intro v' w' h1 h2 _ h4
    exact h v' w' (by rw [bv_append]; exact h1) h2 h4

theorem step_append_own_at2 {P : Program} {ops : Array Oper} {o : Oper} {a : Act} {w : World} {K : Act → World → Prop} {Q : Exit → Act → World → Prop} {E : Prop}
    (hgd : o.guard = none) (s x : Operand) (t : TypeId) (ho : o.op = .call { callee := .builtin .append, args := #[s, x], argTypes := #[t, t] })
    (base : Nat) (e : TypeId) (i : TypeInfo) (z : Value) (size bytes : Nat) (ht : P.underlying t = some (.slice e)) (hi : P.info? e = some i) (hz : i.zero = some z)
    (hsize : i.size = size) (hby : i.bytes = bytes) (hzs : z.cells.size = size) (hsz : 0 < size)
    (v : Value) (n : Nat) (xs : List Value) (hs : a.eval s = v) (hown : w.ownsRow base e size v n xs)
    (ad : Addr) (m c : Nat) (news : List Value) (hx : a.eval x = .slice (some ad) m c) (hl : news.length = m * size) (hnews : ∀ j u, news[j]? = some u → w.cell? (ad.add j) = some u) (h1 : ∀ u ∈ news, u.oneCell' = true)
    (h63 : n + m ≤ maxLen) (hbytes : (n + m) * bytes ≤ 140737488355328) (hbase : base ≤ w.heap.size)
    (h : ∀ v' w', w'.ownsRow base e size v' (n + m) (xs ++ news) → w.grownBy w' v.ownBlock → (v'.ownBlock = v.ownBlock ∨ v'.ownBlock = some w.heap.size) → K (a.put o.dst v') w') :
    if Region.wanted o (yielded ops a.tmps) = true then Oper.wp P o a w K Q else E := by
  have hw : Region.wanted o (yielded ops a.tmps) = true := by simp [Region.wanted, hgd]
  rw [if_pos hw]
  obtain ⟨v', w', hr, h2, h3, h4, h5⟩ := run_append_own_at (P := P) w base t o.type e i z size bytes ht hi hz hsize hby hzs hsz v n xs hown ad m c news hl hnews h1 h63 hbytes hbase
  unfold Oper.wp execOp
  simp only [ho, resolve, invoke, builtin, Sem.run_bind, Sem.run_pure, Result.andThen_ok, List.map_toArray, List.map_cons, List.map_nil, hs, hx, hr]
  exact h v' w' h2 h3 h5

/-- what one row's block is, another one's isn't -/
def Apart (v u : Value) : Prop := v.ownBlock = none ∨ v.ownBlock ≠ u.ownBlock
theorem Apart.none (u : Value) : Apart (.slice none 0 0) u := .inl rfl
theorem Apart.symm {v u : Value} (h : Apart v u) : Apart u v := by
  unfold Apart at h ⊢
  cases hu : u.ownBlock with
  | none => exact .inl rfl
  | some k =>
    rcases h with h | h
    · rw [h]; exact .inr (by simp)
    · rw [hu] at h; exact .inr (fun e => h e.symm)
/-- v moved or not, u stays: still apart -/
theorem Apart.moved {s : Nat} {v v' u : Value} (h : Apart v u) (hat : v'.ownBlock = v.ownBlock ∨ v'.ownBlock = some s) (hu : ∀ k, u.ownBlock = some k → k < s) : Apart v' u := by
  rcases hat with e | e
  · unfold Apart; rw [e]; exact h
  · refine .inr (fun e2 => ?_)
    rw [e] at e2
    have := hu _ e2.symm
    omega
theorem Apart.keeps {w w' : World} {base n : Nat} {e : TypeId} {size : Nat} {v u : Value} {xs : List Value} (h : Apart u v) (hown : w.ownsRow base e size u n xs) (hg : w.grownBy w' v.ownBlock) : w'.ownsRow base e size u n xs := hown.kept hg h
end Go.Proofs.YtbdgcfimbblncaaGreatDoor
end PkMB5_12
section PkMB5_13
/- Package label's quoted, walked: a value as it stands in a text. -/
namespace Go.Proofs.YtbdgcfimbblncaaGreatDoor
open Go.RowKit LabPlain
set_option linter.unusedVariables false

/-- a digit of a byte; a byte, as it is written -/
def dg (n : Nat) : Nat := if n < 10 then 48 + n else 87 + n
def plainC (c : Nat) : Bool := decide (32 ≤ c) && decide (c ≤ 126) && decide (c ≠ 34) && decide (c ≠ 92)
def qb (c : Nat) : List Nat := if plainC c then [c] else [92, dg (c / 16), dg (c % 16)]
/-- the first k bytes of a value, as they are written -/
def qs (s : ByteArray) : Nat → List Nat
  | 0 => []
  | k + 1 => qs s k ++ qb (at_ s k)
theorem dg_lt (n : Nat) (h : n < 16) : dg n < 256 := by unfold dg; split <;> omega
theorem qb_byte {c : Nat} (h : c < 256) : ∀ x ∈ qb c, x < 256 := by
  intro x hx
  unfold qb at hx
  split at hx
  · simp at hx; omega
  · have h1 := dg_lt (c / 16) (by omega)
    have h2 := dg_lt (c % 16) (by omega)
    simp at hx
    omega
theorem qs_byte (s : ByteArray) : ∀ k, ∀ x ∈ qs s k, x < 256
  | 0, x, hx => by cases hx
  | k + 1, x, hx => by
    rcases List.mem_append.1 hx with h | h
    · exact qs_byte s k x h
    · exact qb_byte (at_lt s k) x h
theorem qs_len (s : ByteArray) : ∀ k, (qs s k).length ≤ 3 * k
  | 0 => by simp [qs]
  | k + 1 => by
    have := qs_len s k
    have h2 : (qb (at_ s k)).length ≤ 3 := by unfold qb; split <;> simp
    rw [qs, List.length_append]; omega
theorem dig_at : ∀ n, n < 16 → ((({ data := #[48, 49, 50, 51, 52, 53, 54, 55, 56, 57, 97, 98, 99, 100, 101, 102] } : ByteArray)[n]?).map UInt8.toNat) = some (dg n) := by decide

set_option maxRecDepth 100000 in
set_option maxHeartbeats 1000000 in
theorem quoted_any (s : ByteArray) (hs : s.size ≤ 1000) (w : World) :
    Calls Tryz.prog 139 #[.string s] w fun e w' => e = .returned (.string (bs (qs s s.size))) ∧ Below w.heap.size w w' := by
  obtain ⟨i0, hi, hz0, hz1, hz2⟩ := info_parts info_u8
  have HO0 := Lib.hid (own_nil_bytes w w.heap.size)
  go_enter Tryz.func139, Tryz.ntmps139
  go_wp2_with fail
  go_loopw [3, 8] (fun s3 s8 wr => ∃ (k m c : Nat) (a : Option Addr), k ≤ s.size ∧ s8 = .int .i64 (k : Int) ∧ s3 = .slice a m c ∧ Hid (m = (qs s k).length) ∧ Hid (wr.ownsRow w.heap.size 5 1 (.slice a m c) m (bv (qs s k))) ∧ Hid (Below w.heap.size w wr)) (fun _ s8 _ => s.size - (intOf s8).toNat)
  case atStart => exact ⟨0, 0, 0, none, by omega, rfl, rfl, Lib.hid rfl, HO0, Lib.hid (Below.refl _ _)⟩
  case round =>
    clear HO0
    obtain ⟨k, m, cp, a, hk, rfl, rfl, HM, HO, HB⟩ := hrel
    rename World => wr
    by_cases hks : k < s.size
    · obtain ⟨c, hc⟩ : ∃ c, c = at_ s k := ⟨_, rfl⟩
      have hsk : (s[k]'hks).toNat = c := by rw [hc, at_get s k hks]
      have hcl : c < 256 := by rw [hc]; exact at_lt s k
      have HCK := Lib.hid hc
      have hm3 : m ≤ 3000 := by have := qs_len s k; have := HM.out; omega
      have hbs := HB.out.size
      clear hc
      by_cases hp : plainC c = true
      · have hpp : 32 ≤ c ∧ c ≤ 126 ∧ c ≠ 34 ∧ c ≠ 92 := by simpa [plainC, and_assoc] using hp
        obtain ⟨p1, p2, p3, p4⟩ := hpp
        have HQ := Lib.hid (show qs s (k + 1) = qs s k ++ [c] by rw [qs, ← HCK.out]; unfold qb; rw [if_pos hp])
        have i1 : (32 : Int) ≤ (c : Int) := by omega
        have i2 : (c : Int) ≤ 126 := by omega
        have i3 : ((c : Int) == 34) = false := by rw [beq_eq_false_iff_ne]; omega
        have i4 : ((c : Int) == 92) = false := by rw [beq_eq_false_iff_ne]; omega
        clear p1 p2 p3 p4 hp
        have HOA := Lib.hid (HO.out.alloc (.cells #[.int .u8 (c : Int)] 5))
        go_wp2_with (at_builtin; refine wpList_append_own_at _ rfl (.tmp 37) (.tmp 39) 30 rfl w.heap.size 5 i0 (.int .u8 0) 1 1 Tryz.underlying30 hi hz0 hz1 hz2 rfl (by decide) _ _ _ rfl HOA.out ⟨wr.heap.size, 0, none⟩ 1 1 [.int .u8 (c : Int)] rfl rfl (one_src _ _ _) (one_oneCell rfl) (by unfold maxLen; omega) (by omega) (by simp; omega) ?_)
        intro v2 w2 ho2 hg2 _ _
        obtain ⟨g2, c2, rfl⟩ := own_some2 ho2 (by omega)
        have HB2 := Lib.hid (below_own (HB.out.alloc hbs (.cells #[.int .u8 (c : Int)] 5)) HOA.out hg2 (Nat.le_refl _) (by simp; omega))
        have HO2 := Lib.hid ho2
        clear ho2 hg2
        go_wp2_with fail
        go_roundw
        case rel => exact ⟨k + 1, m + 1, c2, _, by omega, by go_num, rfl, Lib.hid (by rw [HQ.out, List.length_append, ← HM.out]; rfl), Lib.hid (by rw [HQ.out, bv_append]; exact HO2.out), HB2⟩
        case measure => simp [intOf]; omega
      · have hp2 : plainC c = false := by simpa using hp
        have HQ := Lib.hid (show qs s (k + 1) = qs s k ++ [92, dg (c / 16), dg (c % 16)] by rw [qs, ← HCK.out]; unfold qb; rw [if_neg hp])
        have hpp : ((c : Int) < 32) ∨ ((32 : Int) ≤ (c : Int) ∧ (126 : Int) < (c : Int)) ∨ ((32 : Int) ≤ (c : Int) ∧ (c : Int) ≤ 126 ∧ ((c : Int) == 34) = true) ∨ ((32 : Int) ≤ (c : Int) ∧ (c : Int) ≤ 126 ∧ ((c : Int) == 34) = false ∧ ((c : Int) == 92) = true) := by
          simp [plainC] at hp2
          simp only [beq_iff_eq, beq_eq_false_iff_ne]
          omega
        have hand : bits .and .u8 (c : Int) 15 = ((c % 16 : Nat) : Int) := by
          have := u8_and_nat c 15 hcl (by omega)
          rw [nat_mask4] at this
          exact this
        obtain ⟨h, hh⟩ : ∃ h, h = c / 16 := ⟨_, rfl⟩
        obtain ⟨l, hl⟩ : ∃ l, l = c % 16 := ⟨_, rfl⟩
        have hdiv : (c : Int) / 16 = (h : Int) := by omega
        have hh16 : h < 16 := by omega
        have hl16 : l < 16 := by omega
        have hhi : (h : Int) < 16 := by omega
        have hli : (l : Int) < 16 := by omega
        rw [← hl] at hand HQ
        rw [← hh] at HQ
        obtain ⟨d1, hd1⟩ : ∃ d, d = dg h := ⟨_, rfl⟩
        obtain ⟨d2, hd2⟩ : ∃ d, d = dg l := ⟨_, rfl⟩
        have hx1 : ((({ data := #[48, 49, 50, 51, 52, 53, 54, 55, 56, 57, 97, 98, 99, 100, 101, 102] } : ByteArray)[h]'hh16).toNat : Nat) = d1 := by
          have := dig_at h hh16
          rw [ByteArray.getElem?_lt' _ _ hh16] at this
          rw [hd1]
          exact Option.some.inj this
        have hx2 : ((({ data := #[48, 49, 50, 51, 52, 53, 54, 55, 56, 57, 97, 98, 99, 100, 101, 102] } : ByteArray)[l]'hl16).toNat : Nat) = d2 := by
          have := dig_at l hl16
          rw [ByteArray.getElem?_lt' _ _ hl16] at this
          rw [hd2]
          exact Option.some.inj this
        have hd1l : d1 < 256 := by rw [hd1]; exact dg_lt _ hh16
        have hd2l : d2 < 256 := by rw [hd2]; exact dg_lt _ hl16
        rw [← hd1, ← hd2] at HQ
        have HLIT := Lib.hid (BytesAt.lit wr #[.int .u8 92, .int .u8 (d1 : Int), .int .u8 (d2 : Int)] [92, d1, d2] rfl (by intro x hx; simp at hx; omega) (by simp) (by simp)).drew
        have HOA := Lib.hid ((HO.out.alloc (.cells #[.int .u8 92, .int .u8 (d1 : Int), .int .u8 (d2 : Int)] 5)).drew)
        have HBA := Lib.hid ((HB.out.alloc hbs (.cells #[.int .u8 92, .int .u8 (d1 : Int), .int .u8 (d2 : Int)] 5)).drew)
        clear hp hp2 hh hl hd1 hd2
        rcases hpp with i1 | ⟨i1, i2⟩ | ⟨i1, i2, i3⟩ | ⟨i1, i2, i3, i4⟩
        all_goals
          go_wp2_with fail
          go_region_law (first | (refine step_append_own_at2 rfl (.tmp 28) (.tmp 35) 30 rfl w.heap.size 5 i0 (.int .u8 0) 1 1 Tryz.underlying30 hi hz0 hz1 hz2 rfl (by decide) _ _ _ rfl HOA.out ⟨wr.heap.size, 0, none⟩ 3 3 (bv [92, d1, d2]) rfl rfl HLIT.out.src (bv_oneCell _) (by unfold maxLen; omega) (by omega) (by simp; omega) ?_; intro v2 w2 ho2 hg2 hat2))
          all_goals
            obtain ⟨g2, c2, rfl⟩ := own_some2 ho2 (by omega)
            have HB2 := Lib.hid (below_own HBA.out HOA.out hg2 (Nat.le_refl _) (by simp; omega))
            have HO2 := Lib.hid ho2
            clear ho2 hg2 hat2
            go_wp2_with fail
            go_roundw
            case rel => exact ⟨k + 1, m + 3, c2, _, by omega, by go_num, rfl, Lib.hid (by rw [HQ.out, List.length_append, ← HM.out]; rfl), Lib.hid (by rw [HQ.out, bv_append]; exact HO2.out), HB2⟩
            case measure => simp [intOf]; omega
    · obtain rfl : k = s.size := by omega
      obtain ⟨a9, c9, he9, hba, _⟩ := BytesAt.ofOwn HO.out (qs_byte s _) (by have := qs_len s s.size; have := HM.out; omega)
      simp only [Value.slice.injEq, true_and] at he9
      obtain ⟨rfl, rfl⟩ := he9
      have hcv := hba.conv
      have HB9 := HB
      clear hks hba
      go_wp2_with fail
      go_ret
      exact ⟨rfl, HB9.out⟩
end Go.Proofs.YtbdgcfimbblncaaGreatDoor
end PkMB5_13
