/- Texts put together by packtpl2.py: MfRE, MfK, MfN, MfP, LabNm, LabAt, LabRight. -/
import Derived.Test.YtbdgcfimbblncaaGreatDoorPkMR1
import Derived.Test.YtbdgcfimbblncaaGreatDoorPkMR2
import Derived.Test.YtbdgcfimbblncaaGreatDoorPkMR6
import Derived.Deep.Slices
import Derived.Deep.Fields
import Derived.ChangeSame
import Derived.Laws.Cover1
section PkMR7_0
/- Manifests: entries that rise; of any. Written by genmfr.py. -/
namespace Go.Proofs.YtbdgcfimbblncaaGreatDoor
open Go.RowKit LabPlain
set_option linter.unusedVariables false

set_option maxRecDepth 100000 in
set_option maxHeartbeats 8000000 in
theorem rising_anyE {w : World} {a : Option Addr} {n c : Nat} {l : List EntV} (h : VecAt EntS w a n c l) {mb : Nat} (p : EntV → Bool)
    (hR : ∀ (W : World) (z : EntV), z ∈ l → Below w.heap.size w W → EntS.ok W z → Calls Tryz.prog 35 #[.agg #[.string z.key, .int .i64 z.win, .string z.part, .int .i64 z.fst, .int .i64 z.lst, .int .i64 z.rows, .int .i64 z.size, .int .u32 z.sum, .int .i64 z.born], .pointer (some ⟨mb, 0, none⟩)] W fun e w' => e = .returned (.bool (p z)) ∧ Below W.heap.size W w') :
    Calls Tryz.prog 37 #[.slice a n c, .func (.func 38) #[] #[], .func (.func 35) #[] #[.pointer (some ⟨mb, 0, none⟩)]] w fun e w' => RisIs p (fun a b => cmpS a.key b.key) EntS.z l n e ∧ Below w.heap.size w w' := by
  have hcap := h.cap
  have hcm := h.capm
  have HH := Lib.hid h
  have HL := Lib.hid h.len
  have HR := Lib.hid hR
  clear h hR
  go_enter Tryz.func37, Tryz.ntmps37
  go_wp2_with fail
  go_loopw [7, 8, 11] (fun _ _ s11 wr => ∃ k : Nat, k ≤ n ∧ s11 = .int .i64 (k : Int) ∧ Hid (RisOk p (fun a b => cmpS a.key b.key) EntS.z l k) ∧ Hid (Below w.heap.size w wr)) (fun _ _ s11 _ => n - (intOf s11).toNat)
  case atStart => exact ⟨0, by omega, rfl, Lib.hid (fun j hj => by omega), Lib.hid (Below.refl _ _)⟩
  case round =>
    obtain ⟨k, hk, rfl, HOK, HB⟩ := hrel
    rename World => wr
    by_cases hkn : k < n
    · have hki : (k : Int) < (n : Int) := by omega
      obtain ⟨sb, so, rfl, hsl, hok, hsc9⟩ := (HH.out.kept HB.out).get hkn
      obtain ⟨s, hse⟩ : ∃ s, s = l.getD k EntS.z := ⟨_, rfl⟩
      obtain ⟨r, hre⟩ : ∃ r, r = l.getD (k - 1) EntS.z := ⟨_, rfl⟩
      rw [← hse] at hsc9 hok
      have HSE := Lib.hid hse
      have HRE := Lib.hid hre
      have HSL := Lib.hid hsl
      have HSY := Lib.hid (show ∀ j u, (EntS.f r)[j]? = some u → wr.cell? ⟨sb, so + (k - 1) * 9 + j, none⟩ = some u from by
        obtain ⟨sb2, so2, e2, _, _, hy⟩ := (HH.out.kept HB.out).get (show k - 1 < n by omega)
        cases e2
        rw [← hre] at hy
        exact hy)
      obtain ⟨x0, x1, x2, x3, x4, x5, x6, x7, x8⟩ := s
      obtain ⟨y0, y1, y2, y3, y4, y5, y6, y7, y8⟩ := r
      have d0 : wr.cell? ⟨sb, so + k * 9, none⟩ = some (.string x0) := hsc9 0 _ rfl
      have d1 : wr.cell? ⟨sb, so + k * 9 + 1, none⟩ = some (.int .i64 x1) := hsc9 1 _ rfl
      have d2 : wr.cell? ⟨sb, so + k * 9 + 2, none⟩ = some (.string x2) := hsc9 2 _ rfl
      have d3 : wr.cell? ⟨sb, so + k * 9 + 3, none⟩ = some (.int .i64 x3) := hsc9 3 _ rfl
      have d4 : wr.cell? ⟨sb, so + k * 9 + 4, none⟩ = some (.int .i64 x4) := hsc9 4 _ rfl
      have d5 : wr.cell? ⟨sb, so + k * 9 + 5, none⟩ = some (.int .i64 x5) := hsc9 5 _ rfl
      have d6 : wr.cell? ⟨sb, so + k * 9 + 6, none⟩ = some (.int .i64 x6) := hsc9 6 _ rfl
      have d7 : wr.cell? ⟨sb, so + k * 9 + 7, none⟩ = some (.int .u32 x7) := hsc9 7 _ rfl
      have d8 : wr.cell? ⟨sb, so + k * 9 + 8, none⟩ = some (.int .i64 x8) := hsc9 8 _ rfl
      have HXA := Lib.hid (heap_alloc_new wr (.cells #[.string x0, .int .i64 x1, .string x2, .int .i64 x3, .int .i64 x4, .int .i64 x5, .int .i64 x6, .int .u32 x7, .int .i64 x8] 53))
      have HXL := Lib.hid ((Array.getElem?_eq_some_iff.1 (heap_alloc_new wr (.cells #[.string x0, .int .i64 x1, .string x2, .int .i64 x3, .int .i64 x4, .int .i64 x5, .int .i64 x6, .int .u32 x7, .int .i64 x8] 53))).1)
      have HAL := Lib.hid (show Below w.heap.size w (wr.alloc (.cells #[.string x0, .int .i64 x1, .string x2, .int .i64 x3, .int .i64 x4, .int .i64 x5, .int .i64 x6, .int .u32 x7, .int .i64 x8] 53)) from HB.out.alloc HB.out.size _)
      obtain ⟨bx, hbx⟩ : ∃ bx, bx = p (⟨x0, x1, x2, x3, x4, x5, x6, x7, x8⟩ : EntV) := ⟨_, rfl⟩
      have HBX := Lib.hid hbx
      have HSLA := Lib.hid (show sb < (wr.alloc (.cells #[.string x0, .int .i64 x1, .string x2, .int .i64 x3, .int .i64 x4, .int .i64 x5, .int .i64 x6, .int .u32 x7, .int .i64 x8] 53)).heap.size from Nat.lt_of_lt_of_le hsl ((Below.refl wr.heap.size wr).alloc (Nat.le_refl _) _).size)
      have HSYA := Lib.hid (show ∀ j u, (EntS.f (⟨y0, y1, y2, y3, y4, y5, y6, y7, y8⟩ : EntV))[j]? = some u → (wr.alloc (.cells #[.string x0, .int .i64 x1, .string x2, .int .i64 x3, .int .i64 x4, .int .i64 x5, .int .i64 x6, .int .u32 x7, .int .i64 x8] 53)).cell? ⟨sb, so + (k - 1) * 9 + j, none⟩ = some u from fun j u hu => (((Below.refl wr.heap.size wr).alloc (Nat.le_refl _) (.cells #[.string x0, .int .i64 x1, .string x2, .int .i64 x3, .int .i64 x4, .int .i64 x5, .int .i64 x6, .int .u32 x7, .int .i64 x8] 53)).cell (p := ⟨sb, so + (k - 1) * 9 + j, none⟩) hsl).trans (HSY.out j u hu))
      have HOKX := Lib.hid (EntS.mono ((Below.refl wr.heap.size wr).alloc (Nat.le_refl _) (.cells #[.string x0, .int .i64 x1, .string x2, .int .i64 x3, .int .i64 x4, .int .i64 x5, .int .i64 x6, .int .u32 x7, .int .i64 x8] 53)) hok)
      have HRX := Lib.hid (show ∀ W9, Below (wr.alloc (.cells #[.string x0, .int .i64 x1, .string x2, .int .i64 x3, .int .i64 x4, .int .i64 x5, .int .i64 x6, .int .u32 x7, .int .i64 x8] 53)).heap.size (wr.alloc (.cells #[.string x0, .int .i64 x1, .string x2, .int .i64 x3, .int .i64 x4, .int .i64 x5, .int .i64 x6, .int .u32 x7, .int .i64 x8] 53)) W9 → Calls Tryz.prog 35 #[.agg #[.string x0, .int .i64 x1, .string x2, .int .i64 x3, .int .i64 x4, .int .i64 x5, .int .i64 x6, .int .u32 x7, .int .i64 x8], .pointer (some ⟨mb, 0, none⟩)] W9 fun e w' => e = .returned (.bool bx) ∧ Below W9.heap.size W9 w' from fun W9 hB => by
        rw [hbx]
        exact HR.out W9 (⟨x0, x1, x2, x3, x4, x5, x6, x7, x8⟩ : EntV) (by rw [hse]; exact vec_mem (S := EntS) (by rw [HL.out]; exact hkn)) (HAL.out.trans (hB.mono HAL.out.size)) (EntS.mono hB HOKX.out))
      clear hsc9 hse hre hsl hok HSL HSY
      have HSL := HSLA
      have HSY := HSYA
      clear HSLA HSYA
      go_wp2_with fail
      cases bx with
      | false =>
        have HNO := Lib.hid (RisIs.no (p := p) (cm := fun a b => cmpS a.key b.key) (d := EntS.z) (l := l) hkn (fun g => by have h1 := g.1; rw [← HSE.out, ← HBX.out] at h1; cases h1))
        clear hbx
        refine wp_region_fill (by kernel_rfl) (by kernel_rfl) (by kernel_rfl) (Below (wr.alloc (.cells #[.string x0, .int .i64 x1, .string x2, .int .i64 x3, .int .i64 x4, .int .i64 x5, .int .i64 x6, .int .u32 x7, .int .i64 x8] 53)).heap.size (wr.alloc (.cells #[.string x0, .int .i64 x1, .string x2, .int .i64 x3, .int .i64 x4, .int .i64 x5, .int .i64 x6, .int .u32 x7, .int .i64 x8] 53))) (FV (fun j_9 => match j_9 with | 0 => some (.func (.func 35) #[] #[.pointer (some ⟨mb, 0, none⟩)]) | 1 => some (.agg #[.string x0, .int .i64 x1, .string x2, .int .i64 x3, .int .i64 x4, .int .i64 x5, .int .i64 x6, .int .u32 x7, .int .i64 x8]) | 2 => some (.bool false) | 3 => some (.bool true) | 4 => some (.bool true) | 5 => some (undef) | 6 => some (undef) | 7 => some (undef) | 8 => some (undef) | 9 => some (undef) | 10 => some (undef) | 11 => some (undef) | 12 => some (undef) | 13 => some (undef) | 14 => some (undef) | 15 => some (undef) | 16 => some (undef) | 17 => some (undef) | 18 => some (.bool true) | _ => none) (fun _ _ => True)) (Below.refl _ _).drew ?_ ?_
        · intro i9 o ho V w9 K hJ hdep hK
          have HJ := Lib.hid hJ
          simp only [fill, slotOf, List.size_toArray, List.length_cons, List.length_nil, Nat.reduceAdd, List.getElem?_toArray, List.getElem?_cons_zero, List.getElem?_cons_succ, Option.bind_some, Act.put, List.setIfInBounds_toArray, List.set_cons_zero, List.set_cons_succ] at hK ⊢
          have hin : i9 < 19 := (Array.getElem?_eq_some_iff.1 ho).1
          have hcs : i9 = 0 ∨ i9 = 1 ∨ i9 = 2 ∨ i9 = 3 ∨ i9 = 4 ∨ i9 = 5 ∨ i9 = 6 ∨ i9 = 7 ∨ i9 = 8 ∨ i9 = 9 ∨ i9 = 10 ∨ i9 = 11 ∨ i9 = 12 ∨ i9 = 13 ∨ i9 = 14 ∨ i9 = 15 ∨ i9 = 16 ∨ i9 = 17 ∨ i9 = 18 := by omega
          clear hin
          rcases hcs with rfl | rfl | rfl | rfl | rfl | rfl | rfl | rfl | rfl | rfl | rfl | rfl | rfl | rfl | rfl | rfl | rfl | rfl | rfl
          · obtain rfl := Option.some.inj ho.symm
            clear hdep ho hJ
            try simp only [fill, slotOf, List.size_toArray, List.length_cons, List.length_nil, Nat.reduceAdd, List.getElem?_toArray, List.getElem?_cons_zero, List.getElem?_cons_succ, Option.bind_some, Act.put, List.setIfInBounds_toArray, List.set_cons_zero, List.set_cons_succ] at hK ⊢
            go_simp
            exact hK (.func (.func 35) #[] #[.pointer (some ⟨mb, 0, none⟩)]) _ HJ.out rfl (fun j y h => h) _ rfl
          · obtain rfl := Option.some.inj ho.symm
            have e0 : w9.cell? ⟨wr.heap.size, 0, none⟩ = some (.string x0) := (hJ.cell (p := ⟨wr.heap.size, 0, none⟩) HXL.out).trans (cell_blk HXA.out rfl)
            have e1 : w9.cell? ⟨wr.heap.size, 1, none⟩ = some (.int .i64 x1) := (hJ.cell (p := ⟨wr.heap.size, 1, none⟩) HXL.out).trans (cell_blk HXA.out rfl)
            have e2 : w9.cell? ⟨wr.heap.size, 2, none⟩ = some (.string x2) := (hJ.cell (p := ⟨wr.heap.size, 2, none⟩) HXL.out).trans (cell_blk HXA.out rfl)
            have e3 : w9.cell? ⟨wr.heap.size, 3, none⟩ = some (.int .i64 x3) := (hJ.cell (p := ⟨wr.heap.size, 3, none⟩) HXL.out).trans (cell_blk HXA.out rfl)
            have e4 : w9.cell? ⟨wr.heap.size, 4, none⟩ = some (.int .i64 x4) := (hJ.cell (p := ⟨wr.heap.size, 4, none⟩) HXL.out).trans (cell_blk HXA.out rfl)
            have e5 : w9.cell? ⟨wr.heap.size, 5, none⟩ = some (.int .i64 x5) := (hJ.cell (p := ⟨wr.heap.size, 5, none⟩) HXL.out).trans (cell_blk HXA.out rfl)
            have e6 : w9.cell? ⟨wr.heap.size, 6, none⟩ = some (.int .i64 x6) := (hJ.cell (p := ⟨wr.heap.size, 6, none⟩) HXL.out).trans (cell_blk HXA.out rfl)
            have e7 : w9.cell? ⟨wr.heap.size, 7, none⟩ = some (.int .u32 x7) := (hJ.cell (p := ⟨wr.heap.size, 7, none⟩) HXL.out).trans (cell_blk HXA.out rfl)
            have e8 : w9.cell? ⟨wr.heap.size, 8, none⟩ = some (.int .i64 x8) := (hJ.cell (p := ⟨wr.heap.size, 8, none⟩) HXL.out).trans (cell_blk HXA.out rfl)
            clear hdep ho hJ
            try simp only [fill, slotOf, List.size_toArray, List.length_cons, List.length_nil, Nat.reduceAdd, List.getElem?_toArray, List.getElem?_cons_zero, List.getElem?_cons_succ, Option.bind_some, Act.put, List.setIfInBounds_toArray, List.set_cons_zero, List.set_cons_succ] at hK ⊢
            go_simp
            exact hK (.agg #[.string x0, .int .i64 x1, .string x2, .int .i64 x3, .int .i64 x4, .int .i64 x5, .int .i64 x6, .int .u32 x7, .int .i64 x8]) _ HJ.out rfl (fun j y h => h) _ rfl
          · obtain rfl := Option.some.inj ho.symm
            have d0 : V 0 = .func (.func 35) #[] #[.pointer (some ⟨mb, 0, none⟩)] := hdep ⟨0, .data⟩ (by simp) rfl
            have d1 : V 1 = .agg #[.string x0, .int .i64 x1, .string x2, .int .i64 x3, .int .i64 x4, .int .i64 x5, .int .i64 x6, .int .u32 x7, .int .i64 x8] := hdep ⟨1, .data⟩ (by simp) rfl
            clear hdep ho hJ
            try simp only [fill, slotOf, List.size_toArray, List.length_cons, List.length_nil, Nat.reduceAdd, List.getElem?_toArray, List.getElem?_cons_zero, List.getElem?_cons_succ, Option.bind_some, Act.put, List.setIfInBounds_toArray, List.set_cons_zero, List.set_cons_succ] at hK ⊢
            rw [d0, d1] at hK ⊢
            go_simp
            refine (HRX.out w9 HJ.out).mono ?_
            rintro e w8 ⟨rfl, hb8⟩
            exact hK (.bool false) _ (HJ.out.trans (hb8.mono HJ.out.size)) rfl (FV.mono ((fun _ _ _ => trivial) hb8)) _ rfl
          · obtain rfl := Option.some.inj ho.symm
            have d2 : V 2 = .bool false := hdep ⟨2, .data⟩ (by simp) rfl
            clear hdep ho hJ
            try simp only [fill, slotOf, List.size_toArray, List.length_cons, List.length_nil, Nat.reduceAdd, List.getElem?_toArray, List.getElem?_cons_zero, List.getElem?_cons_succ, Option.bind_some, Act.put, List.setIfInBounds_toArray, List.set_cons_zero, List.set_cons_succ] at hK ⊢
            rw [d2] at hK ⊢
            go_simp
            exact hK (.bool true) _ HJ.out rfl (fun j y h => h) _ rfl
          · obtain rfl := Option.some.inj ho.symm
            have d3 : V 3 = .bool true := hdep ⟨3, .data⟩ (by simp) rfl
            clear hdep ho hJ
            try simp only [fill, slotOf, List.size_toArray, List.length_cons, List.length_nil, Nat.reduceAdd, List.getElem?_toArray, List.getElem?_cons_zero, List.getElem?_cons_succ, Option.bind_some, Act.put, List.setIfInBounds_toArray, List.set_cons_zero, List.set_cons_succ] at hK ⊢
            rw [d3] at hK ⊢
            go_simp
            exact hK (.bool true) _ HJ.out rfl (fun j y h => h) _ rfl
          · obtain rfl := Option.some.inj ho.symm
            have d4 : V 4 = .bool true := hdep ⟨4, .guard⟩ (by simp) rfl
            clear hdep ho hJ
            try simp only [fill, slotOf, List.size_toArray, List.length_cons, List.length_nil, Nat.reduceAdd, List.getElem?_toArray, List.getElem?_cons_zero, List.getElem?_cons_succ, Option.bind_some, Act.put, List.setIfInBounds_toArray, List.set_cons_zero, List.set_cons_succ] at hK ⊢
            rw [d4] at hK ⊢
            go_simp
            exact hK (undef) _ HJ.out rfl (fun j y h => h) _ rfl
          · obtain rfl := Option.some.inj ho.symm
            have d4 : V 4 = .bool true := hdep ⟨4, .guard⟩ (by simp) rfl
            clear hdep ho hJ
            try simp only [fill, slotOf, List.size_toArray, List.length_cons, List.length_nil, Nat.reduceAdd, List.getElem?_toArray, List.getElem?_cons_zero, List.getElem?_cons_succ, Option.bind_some, Act.put, List.setIfInBounds_toArray, List.set_cons_zero, List.set_cons_succ] at hK ⊢
            rw [d4] at hK ⊢
            go_simp
            exact hK (undef) _ HJ.out rfl (fun j y h => h) _ rfl
          · obtain rfl := Option.some.inj ho.symm
            have d4 : V 4 = .bool true := hdep ⟨4, .guard⟩ (by simp) rfl
            clear hdep ho hJ
            try simp only [fill, slotOf, List.size_toArray, List.length_cons, List.length_nil, Nat.reduceAdd, List.getElem?_toArray, List.getElem?_cons_zero, List.getElem?_cons_succ, Option.bind_some, Act.put, List.setIfInBounds_toArray, List.set_cons_zero, List.set_cons_succ] at hK ⊢
            rw [d4] at hK ⊢
            go_simp
            exact hK (undef) _ HJ.out rfl (fun j y h => h) _ rfl
          · obtain rfl := Option.some.inj ho.symm
            have d7 : V 7 = undef := hdep ⟨7, .guard⟩ (by simp) rfl
            clear hdep ho hJ
            try simp only [fill, slotOf, List.size_toArray, List.length_cons, List.length_nil, Nat.reduceAdd, List.getElem?_toArray, List.getElem?_cons_zero, List.getElem?_cons_succ, Option.bind_some, Act.put, List.setIfInBounds_toArray, List.set_cons_zero, List.set_cons_succ] at hK ⊢
            rw [d7] at hK ⊢
            go_simp
            exact hK (undef) _ HJ.out rfl (fun j y h => h) _ rfl
          · obtain rfl := Option.some.inj ho.symm
            have d7 : V 7 = undef := hdep ⟨7, .guard⟩ (by simp) rfl
            clear hdep ho hJ
            try simp only [fill, slotOf, List.size_toArray, List.length_cons, List.length_nil, Nat.reduceAdd, List.getElem?_toArray, List.getElem?_cons_zero, List.getElem?_cons_succ, Option.bind_some, Act.put, List.setIfInBounds_toArray, List.set_cons_zero, List.set_cons_succ] at hK ⊢
            rw [d7] at hK ⊢
            go_simp
            exact hK (undef) _ HJ.out rfl (fun j y h => h) _ rfl
          · obtain rfl := Option.some.inj ho.symm
            have d7 : V 7 = undef := hdep ⟨7, .guard⟩ (by simp) rfl
            clear hdep ho hJ
            try simp only [fill, slotOf, List.size_toArray, List.length_cons, List.length_nil, Nat.reduceAdd, List.getElem?_toArray, List.getElem?_cons_zero, List.getElem?_cons_succ, Option.bind_some, Act.put, List.setIfInBounds_toArray, List.set_cons_zero, List.set_cons_succ] at hK ⊢
            rw [d7] at hK ⊢
            go_simp
            exact hK (undef) _ HJ.out rfl (fun j y h => h) _ rfl
          · obtain rfl := Option.some.inj ho.symm
            have d7 : V 7 = undef := hdep ⟨7, .guard⟩ (by simp) rfl
            clear hdep ho hJ
            try simp only [fill, slotOf, List.size_toArray, List.length_cons, List.length_nil, Nat.reduceAdd, List.getElem?_toArray, List.getElem?_cons_zero, List.getElem?_cons_succ, Option.bind_some, Act.put, List.setIfInBounds_toArray, List.set_cons_zero, List.set_cons_succ] at hK ⊢
            rw [d7] at hK ⊢
            go_simp
            exact hK (undef) _ HJ.out rfl (fun j y h => h) _ rfl
          · obtain rfl := Option.some.inj ho.symm
            have d7 : V 7 = undef := hdep ⟨7, .guard⟩ (by simp) rfl
            clear hdep ho hJ
            try simp only [fill, slotOf, List.size_toArray, List.length_cons, List.length_nil, Nat.reduceAdd, List.getElem?_toArray, List.getElem?_cons_zero, List.getElem?_cons_succ, Option.bind_some, Act.put, List.setIfInBounds_toArray, List.set_cons_zero, List.set_cons_succ] at hK ⊢
            rw [d7] at hK ⊢
            go_simp
            exact hK (undef) _ HJ.out rfl (fun j y h => h) _ rfl
          · obtain rfl := Option.some.inj ho.symm
            have d7 : V 7 = undef := hdep ⟨7, .guard⟩ (by simp) rfl
            clear hdep ho hJ
            try simp only [fill, slotOf, List.size_toArray, List.length_cons, List.length_nil, Nat.reduceAdd, List.getElem?_toArray, List.getElem?_cons_zero, List.getElem?_cons_succ, Option.bind_some, Act.put, List.setIfInBounds_toArray, List.set_cons_zero, List.set_cons_succ] at hK ⊢
            rw [d7] at hK ⊢
            go_simp
            exact hK (undef) _ HJ.out rfl (fun j y h => h) _ rfl
          · obtain rfl := Option.some.inj ho.symm
            have d7 : V 7 = undef := hdep ⟨7, .guard⟩ (by simp) rfl
            clear hdep ho hJ
            try simp only [fill, slotOf, List.size_toArray, List.length_cons, List.length_nil, Nat.reduceAdd, List.getElem?_toArray, List.getElem?_cons_zero, List.getElem?_cons_succ, Option.bind_some, Act.put, List.setIfInBounds_toArray, List.set_cons_zero, List.set_cons_succ] at hK ⊢
            rw [d7] at hK ⊢
            go_simp
            exact hK (undef) _ HJ.out rfl (fun j y h => h) _ rfl
          · obtain rfl := Option.some.inj ho.symm
            have d7 : V 7 = undef := hdep ⟨7, .guard⟩ (by simp) rfl
            clear hdep ho hJ
            try simp only [fill, slotOf, List.size_toArray, List.length_cons, List.length_nil, Nat.reduceAdd, List.getElem?_toArray, List.getElem?_cons_zero, List.getElem?_cons_succ, Option.bind_some, Act.put, List.setIfInBounds_toArray, List.set_cons_zero, List.set_cons_succ] at hK ⊢
            rw [d7] at hK ⊢
            go_simp
            exact hK (undef) _ HJ.out rfl (fun j y h => h) _ rfl
          · obtain rfl := Option.some.inj ho.symm
            have d7 : V 7 = undef := hdep ⟨7, .guard⟩ (by simp) rfl
            clear hdep ho hJ
            try simp only [fill, slotOf, List.size_toArray, List.length_cons, List.length_nil, Nat.reduceAdd, List.getElem?_toArray, List.getElem?_cons_zero, List.getElem?_cons_succ, Option.bind_some, Act.put, List.setIfInBounds_toArray, List.set_cons_zero, List.set_cons_succ] at hK ⊢
            rw [d7] at hK ⊢
            go_simp
            exact hK (undef) _ HJ.out rfl (fun j y h => h) _ rfl
          · obtain rfl := Option.some.inj ho.symm
            have d4 : V 4 = .bool true := hdep ⟨4, .guard⟩ (by simp) rfl
            clear hdep ho hJ
            try simp only [fill, slotOf, List.size_toArray, List.length_cons, List.length_nil, Nat.reduceAdd, List.getElem?_toArray, List.getElem?_cons_zero, List.getElem?_cons_succ, Option.bind_some, Act.put, List.setIfInBounds_toArray, List.set_cons_zero, List.set_cons_succ] at hK ⊢
            rw [d4] at hK ⊢
            go_simp
            exact hK (undef) _ HJ.out rfl (fun j y h => h) _ rfl
          · obtain rfl := Option.some.inj ho.symm
            have d4 : V 4 = .bool true := hdep ⟨4, .data⟩ (by simp) rfl
            clear hdep ho hJ
            try simp only [fill, slotOf, List.size_toArray, List.length_cons, List.length_nil, Nat.reduceAdd, List.getElem?_toArray, List.getElem?_cons_zero, List.getElem?_cons_succ, Option.bind_some, Act.put, List.setIfInBounds_toArray, List.set_cons_zero, List.set_cons_succ] at hK ⊢
            rw [d4] at hK ⊢
            go_simp
            exact hK (.bool true) _ HJ.out rfl (fun j y h => h) _ rfl
        · intro V w9 hJ hall
          have dL : V 18 = .bool true := hall 18 (by decide)
          have HJ9 := Lib.hid hJ
          clear hall hJ
          simp only [fill, slotOf, List.size_toArray, List.length_cons, List.length_nil, Nat.reduceAdd, List.getElem?_toArray, List.getElem?_cons_zero, List.getElem?_cons_succ, Option.bind_some, Act.put, List.setIfInBounds_toArray, List.set_cons_zero, List.set_cons_succ]
          rw [dL]
          clear dL
          have HBZ := Lib.hid (HAL.out.trans (HJ9.out.mono HAL.out.size))
          go_wp2_with fail
          go_ret
          exact ⟨HNO.out, HBZ.out⟩
      | true =>
        by_cases hk0 : k = 0
        · subst hk0
          have HOK2 := Lib.hid (HOK.out.succ (by rw [← HSE.out, ← HBX.out]) (fun g => absurd g (Nat.lt_irrefl 0)))
          clear hbx
          refine wp_region_fill (by kernel_rfl) (by kernel_rfl) (by kernel_rfl) (Below (wr.alloc (.cells #[.string x0, .int .i64 x1, .string x2, .int .i64 x3, .int .i64 x4, .int .i64 x5, .int .i64 x6, .int .u32 x7, .int .i64 x8] 53)).heap.size (wr.alloc (.cells #[.string x0, .int .i64 x1, .string x2, .int .i64 x3, .int .i64 x4, .int .i64 x5, .int .i64 x6, .int .u32 x7, .int .i64 x8] 53))) (FV (fun j_9 => match j_9 with | 0 => some (.func (.func 35) #[] #[.pointer (some ⟨mb, 0, none⟩)]) | 1 => some (.agg #[.string x0, .int .i64 x1, .string x2, .int .i64 x3, .int .i64 x4, .int .i64 x5, .int .i64 x6, .int .u32 x7, .int .i64 x8]) | 2 => some (.bool true) | 3 => some (.bool false) | 4 => some (.bool false) | 5 => some (.int .i64 0) | 6 => some (.bool false) | 7 => some (.bool false) | 8 => some (undef) | 9 => some (undef) | 10 => some (undef) | 11 => some (undef) | 12 => some (undef) | 13 => some (undef) | 14 => some (undef) | 15 => some (undef) | 16 => some (undef) | 17 => some (.bool false) | 18 => some (.bool false) | _ => none) (fun _ _ => True)) (Below.refl _ _).drew ?_ ?_
          · intro i9 o ho V w9 K hJ hdep hK
            have HJ := Lib.hid hJ
            simp only [fill, slotOf, List.size_toArray, List.length_cons, List.length_nil, Nat.reduceAdd, List.getElem?_toArray, List.getElem?_cons_zero, List.getElem?_cons_succ, Option.bind_some, Act.put, List.setIfInBounds_toArray, List.set_cons_zero, List.set_cons_succ] at hK ⊢
            have hin : i9 < 19 := (Array.getElem?_eq_some_iff.1 ho).1
            have hcs : i9 = 0 ∨ i9 = 1 ∨ i9 = 2 ∨ i9 = 3 ∨ i9 = 4 ∨ i9 = 5 ∨ i9 = 6 ∨ i9 = 7 ∨ i9 = 8 ∨ i9 = 9 ∨ i9 = 10 ∨ i9 = 11 ∨ i9 = 12 ∨ i9 = 13 ∨ i9 = 14 ∨ i9 = 15 ∨ i9 = 16 ∨ i9 = 17 ∨ i9 = 18 := by omega
            clear hin
            rcases hcs with rfl | rfl | rfl | rfl | rfl | rfl | rfl | rfl | rfl | rfl | rfl | rfl | rfl | rfl | rfl | rfl | rfl | rfl | rfl
            · obtain rfl := Option.some.inj ho.symm
              clear hdep ho hJ
              try simp only [fill, slotOf, List.size_toArray, List.length_cons, List.length_nil, Nat.reduceAdd, List.getElem?_toArray, List.getElem?_cons_zero, List.getElem?_cons_succ, Option.bind_some, Act.put, List.setIfInBounds_toArray, List.set_cons_zero, List.set_cons_succ] at hK ⊢
              go_simp
              exact hK (.func (.func 35) #[] #[.pointer (some ⟨mb, 0, none⟩)]) _ HJ.out rfl (fun j y h => h) _ rfl
            · obtain rfl := Option.some.inj ho.symm
              have e0 : w9.cell? ⟨wr.heap.size, 0, none⟩ = some (.string x0) := (hJ.cell (p := ⟨wr.heap.size, 0, none⟩) HXL.out).trans (cell_blk HXA.out rfl)
              have e1 : w9.cell? ⟨wr.heap.size, 1, none⟩ = some (.int .i64 x1) := (hJ.cell (p := ⟨wr.heap.size, 1, none⟩) HXL.out).trans (cell_blk HXA.out rfl)
              have e2 : w9.cell? ⟨wr.heap.size, 2, none⟩ = some (.string x2) := (hJ.cell (p := ⟨wr.heap.size, 2, none⟩) HXL.out).trans (cell_blk HXA.out rfl)
              have e3 : w9.cell? ⟨wr.heap.size, 3, none⟩ = some (.int .i64 x3) := (hJ.cell (p := ⟨wr.heap.size, 3, none⟩) HXL.out).trans (cell_blk HXA.out rfl)
              have e4 : w9.cell? ⟨wr.heap.size, 4, none⟩ = some (.int .i64 x4) := (hJ.cell (p := ⟨wr.heap.size, 4, none⟩) HXL.out).trans (cell_blk HXA.out rfl)
              have e5 : w9.cell? ⟨wr.heap.size, 5, none⟩ = some (.int .i64 x5) := (hJ.cell (p := ⟨wr.heap.size, 5, none⟩) HXL.out).trans (cell_blk HXA.out rfl)
              have e6 : w9.cell? ⟨wr.heap.size, 6, none⟩ = some (.int .i64 x6) := (hJ.cell (p := ⟨wr.heap.size, 6, none⟩) HXL.out).trans (cell_blk HXA.out rfl)
              have e7 : w9.cell? ⟨wr.heap.size, 7, none⟩ = some (.int .u32 x7) := (hJ.cell (p := ⟨wr.heap.size, 7, none⟩) HXL.out).trans (cell_blk HXA.out rfl)
              have e8 : w9.cell? ⟨wr.heap.size, 8, none⟩ = some (.int .i64 x8) := (hJ.cell (p := ⟨wr.heap.size, 8, none⟩) HXL.out).trans (cell_blk HXA.out rfl)
              clear hdep ho hJ
              try simp only [fill, slotOf, List.size_toArray, List.length_cons, List.length_nil, Nat.reduceAdd, List.getElem?_toArray, List.getElem?_cons_zero, List.getElem?_cons_succ, Option.bind_some, Act.put, List.setIfInBounds_toArray, List.set_cons_zero, List.set_cons_succ] at hK ⊢
              go_simp
              exact hK (.agg #[.string x0, .int .i64 x1, .string x2, .int .i64 x3, .int .i64 x4, .int .i64 x5, .int .i64 x6, .int .u32 x7, .int .i64 x8]) _ HJ.out rfl (fun j y h => h) _ rfl
            · obtain rfl := Option.some.inj ho.symm
              have d0 : V 0 = .func (.func 35) #[] #[.pointer (some ⟨mb, 0, none⟩)] := hdep ⟨0, .data⟩ (by simp) rfl
              have d1 : V 1 = .agg #[.string x0, .int .i64 x1, .string x2, .int .i64 x3, .int .i64 x4, .int .i64 x5, .int .i64 x6, .int .u32 x7, .int .i64 x8] := hdep ⟨1, .data⟩ (by simp) rfl
              clear hdep ho hJ
              try simp only [fill, slotOf, List.size_toArray, List.length_cons, List.length_nil, Nat.reduceAdd, List.getElem?_toArray, List.getElem?_cons_zero, List.getElem?_cons_succ, Option.bind_some, Act.put, List.setIfInBounds_toArray, List.set_cons_zero, List.set_cons_succ] at hK ⊢
              rw [d0, d1] at hK ⊢
              go_simp
              refine (HRX.out w9 HJ.out).mono ?_
              rintro e w8 ⟨rfl, hb8⟩
              exact hK (.bool true) _ (HJ.out.trans (hb8.mono HJ.out.size)) rfl (FV.mono ((fun _ _ _ => trivial) hb8)) _ rfl
            · obtain rfl := Option.some.inj ho.symm
              have d2 : V 2 = .bool true := hdep ⟨2, .data⟩ (by simp) rfl
              clear hdep ho hJ
              try simp only [fill, slotOf, List.size_toArray, List.length_cons, List.length_nil, Nat.reduceAdd, List.getElem?_toArray, List.getElem?_cons_zero, List.getElem?_cons_succ, Option.bind_some, Act.put, List.setIfInBounds_toArray, List.set_cons_zero, List.set_cons_succ] at hK ⊢
              rw [d2] at hK ⊢
              go_simp
              exact hK (.bool false) _ HJ.out rfl (fun j y h => h) _ rfl
            · obtain rfl := Option.some.inj ho.symm
              have d3 : V 3 = .bool false := hdep ⟨3, .data⟩ (by simp) rfl
              clear hdep ho hJ
              try simp only [fill, slotOf, List.size_toArray, List.length_cons, List.length_nil, Nat.reduceAdd, List.getElem?_toArray, List.getElem?_cons_zero, List.getElem?_cons_succ, Option.bind_some, Act.put, List.setIfInBounds_toArray, List.set_cons_zero, List.set_cons_succ] at hK ⊢
              rw [d3] at hK ⊢
              go_simp
              exact hK (.bool false) _ HJ.out rfl (fun j y h => h) _ rfl
            · obtain rfl := Option.some.inj ho.symm
              have d4 : V 4 = .bool false := hdep ⟨4, .guard⟩ (by simp) rfl
              clear hdep ho hJ
              try simp only [fill, slotOf, List.size_toArray, List.length_cons, List.length_nil, Nat.reduceAdd, List.getElem?_toArray, List.getElem?_cons_zero, List.getElem?_cons_succ, Option.bind_some, Act.put, List.setIfInBounds_toArray, List.set_cons_zero, List.set_cons_succ] at hK ⊢
              rw [d4] at hK ⊢
              go_simp
              exact hK (.int .i64 0) _ HJ.out rfl (fun j y h => h) _ rfl
            · obtain rfl := Option.some.inj ho.symm
              have d5 : V 5 = .int .i64 0 := hdep ⟨5, .data⟩ (by simp) rfl
              have d4 : V 4 = .bool false := hdep ⟨4, .guard⟩ (by simp) rfl
              clear hdep ho hJ
              try simp only [fill, slotOf, List.size_toArray, List.length_cons, List.length_nil, Nat.reduceAdd, List.getElem?_toArray, List.getElem?_cons_zero, List.getElem?_cons_succ, Option.bind_some, Act.put, List.setIfInBounds_toArray, List.set_cons_zero, List.set_cons_succ] at hK ⊢
              rw [d5, d4] at hK ⊢
              go_simp
              exact hK (.bool false) _ HJ.out rfl (fun j y h => h) _ rfl
            · obtain rfl := Option.some.inj ho.symm
              have d6 : V 6 = .bool false := hdep ⟨6, .data⟩ (by simp) rfl
              have d4 : V 4 = .bool false := hdep ⟨4, .guard⟩ (by simp) rfl
              clear hdep ho hJ
              try simp only [fill, slotOf, List.size_toArray, List.length_cons, List.length_nil, Nat.reduceAdd, List.getElem?_toArray, List.getElem?_cons_zero, List.getElem?_cons_succ, Option.bind_some, Act.put, List.setIfInBounds_toArray, List.set_cons_zero, List.set_cons_succ] at hK ⊢
              rw [d6, d4] at hK ⊢
              go_simp
              exact hK (.bool false) _ HJ.out rfl (fun j y h => h) _ rfl
            · obtain rfl := Option.some.inj ho.symm
              have d7 : V 7 = .bool false := hdep ⟨7, .guard⟩ (by simp) rfl
              clear hdep ho hJ
              try simp only [fill, slotOf, List.size_toArray, List.length_cons, List.length_nil, Nat.reduceAdd, List.getElem?_toArray, List.getElem?_cons_zero, List.getElem?_cons_succ, Option.bind_some, Act.put, List.setIfInBounds_toArray, List.set_cons_zero, List.set_cons_succ] at hK ⊢
              rw [d7] at hK ⊢
              go_simp
              exact hK (undef) _ HJ.out rfl (fun j y h => h) _ rfl
            · obtain rfl := Option.some.inj ho.symm
              have d7 : V 7 = .bool false := hdep ⟨7, .guard⟩ (by simp) rfl
              clear hdep ho hJ
              try simp only [fill, slotOf, List.size_toArray, List.length_cons, List.length_nil, Nat.reduceAdd, List.getElem?_toArray, List.getElem?_cons_zero, List.getElem?_cons_succ, Option.bind_some, Act.put, List.setIfInBounds_toArray, List.set_cons_zero, List.set_cons_succ] at hK ⊢
              rw [d7] at hK ⊢
              go_simp
              exact hK (undef) _ HJ.out rfl (fun j y h => h) _ rfl
            · obtain rfl := Option.some.inj ho.symm
              have d7 : V 7 = .bool false := hdep ⟨7, .guard⟩ (by simp) rfl
              clear hdep ho hJ
              try simp only [fill, slotOf, List.size_toArray, List.length_cons, List.length_nil, Nat.reduceAdd, List.getElem?_toArray, List.getElem?_cons_zero, List.getElem?_cons_succ, Option.bind_some, Act.put, List.setIfInBounds_toArray, List.set_cons_zero, List.set_cons_succ] at hK ⊢
              rw [d7] at hK ⊢
              go_simp
              exact hK (undef) _ HJ.out rfl (fun j y h => h) _ rfl
            · obtain rfl := Option.some.inj ho.symm
              have d7 : V 7 = .bool false := hdep ⟨7, .guard⟩ (by simp) rfl
              clear hdep ho hJ
              try simp only [fill, slotOf, List.size_toArray, List.length_cons, List.length_nil, Nat.reduceAdd, List.getElem?_toArray, List.getElem?_cons_zero, List.getElem?_cons_succ, Option.bind_some, Act.put, List.setIfInBounds_toArray, List.set_cons_zero, List.set_cons_succ] at hK ⊢
              rw [d7] at hK ⊢
              go_simp
              exact hK (undef) _ HJ.out rfl (fun j y h => h) _ rfl
            · obtain rfl := Option.some.inj ho.symm
              have d7 : V 7 = .bool false := hdep ⟨7, .guard⟩ (by simp) rfl
              clear hdep ho hJ
              try simp only [fill, slotOf, List.size_toArray, List.length_cons, List.length_nil, Nat.reduceAdd, List.getElem?_toArray, List.getElem?_cons_zero, List.getElem?_cons_succ, Option.bind_some, Act.put, List.setIfInBounds_toArray, List.set_cons_zero, List.set_cons_succ] at hK ⊢
              rw [d7] at hK ⊢
              go_simp
              exact hK (undef) _ HJ.out rfl (fun j y h => h) _ rfl
            · obtain rfl := Option.some.inj ho.symm
              have d7 : V 7 = .bool false := hdep ⟨7, .guard⟩ (by simp) rfl
              clear hdep ho hJ
              try simp only [fill, slotOf, List.size_toArray, List.length_cons, List.length_nil, Nat.reduceAdd, List.getElem?_toArray, List.getElem?_cons_zero, List.getElem?_cons_succ, Option.bind_some, Act.put, List.setIfInBounds_toArray, List.set_cons_zero, List.set_cons_succ] at hK ⊢
              rw [d7] at hK ⊢
              go_simp
              exact hK (undef) _ HJ.out rfl (fun j y h => h) _ rfl
            · obtain rfl := Option.some.inj ho.symm
              have d7 : V 7 = .bool false := hdep ⟨7, .guard⟩ (by simp) rfl
              clear hdep ho hJ
              try simp only [fill, slotOf, List.size_toArray, List.length_cons, List.length_nil, Nat.reduceAdd, List.getElem?_toArray, List.getElem?_cons_zero, List.getElem?_cons_succ, Option.bind_some, Act.put, List.setIfInBounds_toArray, List.set_cons_zero, List.set_cons_succ] at hK ⊢
              rw [d7] at hK ⊢
              go_simp
              exact hK (undef) _ HJ.out rfl (fun j y h => h) _ rfl
            · obtain rfl := Option.some.inj ho.symm
              have d7 : V 7 = .bool false := hdep ⟨7, .guard⟩ (by simp) rfl
              clear hdep ho hJ
              try simp only [fill, slotOf, List.size_toArray, List.length_cons, List.length_nil, Nat.reduceAdd, List.getElem?_toArray, List.getElem?_cons_zero, List.getElem?_cons_succ, Option.bind_some, Act.put, List.setIfInBounds_toArray, List.set_cons_zero, List.set_cons_succ] at hK ⊢
              rw [d7] at hK ⊢
              go_simp
              exact hK (undef) _ HJ.out rfl (fun j y h => h) _ rfl
            · obtain rfl := Option.some.inj ho.symm
              have d7 : V 7 = .bool false := hdep ⟨7, .guard⟩ (by simp) rfl
              clear hdep ho hJ
              try simp only [fill, slotOf, List.size_toArray, List.length_cons, List.length_nil, Nat.reduceAdd, List.getElem?_toArray, List.getElem?_cons_zero, List.getElem?_cons_succ, Option.bind_some, Act.put, List.setIfInBounds_toArray, List.set_cons_zero, List.set_cons_succ] at hK ⊢
              rw [d7] at hK ⊢
              go_simp
              exact hK (undef) _ HJ.out rfl (fun j y h => h) _ rfl
            · obtain rfl := Option.some.inj ho.symm
              have d7 : V 7 = .bool false := hdep ⟨7, .data⟩ (by simp) rfl
              have d4 : V 4 = .bool false := hdep ⟨4, .guard⟩ (by simp) rfl
              clear hdep ho hJ
              try simp only [fill, slotOf, List.size_toArray, List.length_cons, List.length_nil, Nat.reduceAdd, List.getElem?_toArray, List.getElem?_cons_zero, List.getElem?_cons_succ, Option.bind_some, Act.put, List.setIfInBounds_toArray, List.set_cons_zero, List.set_cons_succ] at hK ⊢
              rw [d7, d4] at hK ⊢
              go_simp
              exact hK (.bool false) _ HJ.out rfl (fun j y h => h) _ rfl
            · obtain rfl := Option.some.inj ho.symm
              have d4 : V 4 = .bool false := hdep ⟨4, .data⟩ (by simp) rfl
              have d17 : V 17 = .bool false := hdep ⟨17, .data⟩ (by simp) rfl
              clear hdep ho hJ
              try simp only [fill, slotOf, List.size_toArray, List.length_cons, List.length_nil, Nat.reduceAdd, List.getElem?_toArray, List.getElem?_cons_zero, List.getElem?_cons_succ, Option.bind_some, Act.put, List.setIfInBounds_toArray, List.set_cons_zero, List.set_cons_succ] at hK ⊢
              rw [d4, d17] at hK ⊢
              go_simp
              exact hK (.bool false) _ HJ.out rfl (fun j y h => h) _ rfl
          · intro V w9 hJ hall
            have dL : V 18 = .bool false := hall 18 (by decide)
            have HJ9 := Lib.hid hJ
            clear hall hJ
            simp only [fill, slotOf, List.size_toArray, List.length_cons, List.length_nil, Nat.reduceAdd, List.getElem?_toArray, List.getElem?_cons_zero, List.getElem?_cons_succ, Option.bind_some, Act.put, List.setIfInBounds_toArray, List.set_cons_zero, List.set_cons_succ]
            rw [dL]
            clear dL
            have HBZ := Lib.hid (HAL.out.trans (HJ9.out.mono HAL.out.size))
            go_wp2_with fail
            go_roundw
            case rel => exact ⟨1, by omega, rfl, HOK2, HBZ⟩
            case measure => simp [intOf]; try omega
        · obtain ⟨j, rfl⟩ : ∃ j, k = j + 1 := ⟨k - 1, by omega⟩
          have HSYJ := Lib.hid HSY.out
          simp only [Nat.add_sub_cancel] at HSYJ
          clear HSY
          have HSY := HSYJ
          clear HSYJ
          obtain ⟨zz, hzz⟩ : ∃ zz, zz = cmpS y0 x0 := ⟨_, rfl⟩
          have HCM := Lib.hid (show ∀ W9, Calls Tryz.prog 38 #[.agg #[.string y0, .int .i64 y1, .string y2, .int .i64 y3, .int .i64 y4, .int .i64 y5, .int .i64 y6, .int .u32 y7, .int .i64 y8], .agg #[.string x0, .int .i64 x1, .string x2, .int .i64 x3, .int .i64 x4, .int .i64 x5, .int .i64 x6, .int .u32 x7, .int .i64 x8]] W9 fun e w' => e = .returned (.int .i64 zz) ∧ Below W9.heap.size W9 w' from fun W9 => by rw [hzz]; exact byE_any y0 x0 y1 x1 y2 x2 y3 x3 y4 x4 y5 x5 y6 x6 y7 x7 y8 x8 W9)
          by_cases hge : zz ≥ 0
          · have HZ := Lib.hid (show decide (zz ≥ 0) = true from decide_eq_true hge)
            have HNO := Lib.hid (RisIs.no (p := p) (cm := fun a b => cmpS a.key b.key) (d := EntS.z) (l := l) hkn (fun g => by have h1 := g.2 (by omega); rw [← HSE.out, ← HRE.out] at h1; have h2 : cmpS y0 x0 < 0 := h1; rw [← hzz] at h2; omega))
            clear hbx hzz hge
            refine wp_region_fill (by kernel_rfl) (by kernel_rfl) (by kernel_rfl) (Below (wr.alloc (.cells #[.string x0, .int .i64 x1, .string x2, .int .i64 x3, .int .i64 x4, .int .i64 x5, .int .i64 x6, .int .u32 x7, .int .i64 x8] 53)).heap.size (wr.alloc (.cells #[.string x0, .int .i64 x1, .string x2, .int .i64 x3, .int .i64 x4, .int .i64 x5, .int .i64 x6, .int .u32 x7, .int .i64 x8] 53))) (FV (fun j_9 => match j_9 with | 0 => some (.func (.func 35) #[] #[.pointer (some ⟨mb, 0, none⟩)]) | 1 => some (.agg #[.string x0, .int .i64 x1, .string x2, .int .i64 x3, .int .i64 x4, .int .i64 x5, .int .i64 x6, .int .u32 x7, .int .i64 x8]) | 2 => some (.bool true) | 3 => some (.bool false) | 4 => some (.bool false) | 5 => some (.int .i64 ((j : Int) + 1)) | 6 => some (.bool true) | 7 => some (.bool true) | 8 => some (.func (.func 38) #[] #[]) | 9 => some (.slice (some ⟨sb, so, none⟩) n c) | 10 => some (.int .i64 ((j : Int) + 1)) | 11 => some (.int .i64 (j : Int)) | 12 => some (.pointer (some ⟨sb, so + j * 9, none⟩)) | 13 => some (.agg #[.string y0, .int .i64 y1, .string y2, .int .i64 y3, .int .i64 y4, .int .i64 y5, .int .i64 y6, .int .u32 y7, .int .i64 y8]) | 14 => some (.agg #[.string x0, .int .i64 x1, .string x2, .int .i64 x3, .int .i64 x4, .int .i64 x5, .int .i64 x6, .int .u32 x7, .int .i64 x8]) | 15 => some (.int .i64 zz) | 16 => some (.bool true) | 17 => some (.bool true) | 18 => some (.bool true) | _ => none) (fun _ _ => True)) (Below.refl _ _).drew ?_ ?_
            · intro i9 o ho V w9 K hJ hdep hK
              have HJ := Lib.hid hJ
              simp only [fill, slotOf, List.size_toArray, List.length_cons, List.length_nil, Nat.reduceAdd, List.getElem?_toArray, List.getElem?_cons_zero, List.getElem?_cons_succ, Option.bind_some, Act.put, List.setIfInBounds_toArray, List.set_cons_zero, List.set_cons_succ] at hK ⊢
              have hin : i9 < 19 := (Array.getElem?_eq_some_iff.1 ho).1
              have hcs : i9 = 0 ∨ i9 = 1 ∨ i9 = 2 ∨ i9 = 3 ∨ i9 = 4 ∨ i9 = 5 ∨ i9 = 6 ∨ i9 = 7 ∨ i9 = 8 ∨ i9 = 9 ∨ i9 = 10 ∨ i9 = 11 ∨ i9 = 12 ∨ i9 = 13 ∨ i9 = 14 ∨ i9 = 15 ∨ i9 = 16 ∨ i9 = 17 ∨ i9 = 18 := by omega
              clear hin
              rcases hcs with rfl | rfl | rfl | rfl | rfl | rfl | rfl | rfl | rfl | rfl | rfl | rfl | rfl | rfl | rfl | rfl | rfl | rfl | rfl
              · obtain rfl := Option.some.inj ho.symm
                clear hdep ho hJ
                try simp only [fill, slotOf, List.size_toArray, List.length_cons, List.length_nil, Nat.reduceAdd, List.getElem?_toArray, List.getElem?_cons_zero, List.getElem?_cons_succ, Option.bind_some, Act.put, List.setIfInBounds_toArray, List.set_cons_zero, List.set_cons_succ] at hK ⊢
                go_simp
                exact hK (.func (.func 35) #[] #[.pointer (some ⟨mb, 0, none⟩)]) _ HJ.out rfl (fun j y h => h) _ rfl
              · obtain rfl := Option.some.inj ho.symm
                have e0 : w9.cell? ⟨wr.heap.size, 0, none⟩ = some (.string x0) := (hJ.cell (p := ⟨wr.heap.size, 0, none⟩) HXL.out).trans (cell_blk HXA.out rfl)
                have e1 : w9.cell? ⟨wr.heap.size, 1, none⟩ = some (.int .i64 x1) := (hJ.cell (p := ⟨wr.heap.size, 1, none⟩) HXL.out).trans (cell_blk HXA.out rfl)
                have e2 : w9.cell? ⟨wr.heap.size, 2, none⟩ = some (.string x2) := (hJ.cell (p := ⟨wr.heap.size, 2, none⟩) HXL.out).trans (cell_blk HXA.out rfl)
                have e3 : w9.cell? ⟨wr.heap.size, 3, none⟩ = some (.int .i64 x3) := (hJ.cell (p := ⟨wr.heap.size, 3, none⟩) HXL.out).trans (cell_blk HXA.out rfl)
                have e4 : w9.cell? ⟨wr.heap.size, 4, none⟩ = some (.int .i64 x4) := (hJ.cell (p := ⟨wr.heap.size, 4, none⟩) HXL.out).trans (cell_blk HXA.out rfl)
                have e5 : w9.cell? ⟨wr.heap.size, 5, none⟩ = some (.int .i64 x5) := (hJ.cell (p := ⟨wr.heap.size, 5, none⟩) HXL.out).trans (cell_blk HXA.out rfl)
                have e6 : w9.cell? ⟨wr.heap.size, 6, none⟩ = some (.int .i64 x6) := (hJ.cell (p := ⟨wr.heap.size, 6, none⟩) HXL.out).trans (cell_blk HXA.out rfl)
                have e7 : w9.cell? ⟨wr.heap.size, 7, none⟩ = some (.int .u32 x7) := (hJ.cell (p := ⟨wr.heap.size, 7, none⟩) HXL.out).trans (cell_blk HXA.out rfl)
                have e8 : w9.cell? ⟨wr.heap.size, 8, none⟩ = some (.int .i64 x8) := (hJ.cell (p := ⟨wr.heap.size, 8, none⟩) HXL.out).trans (cell_blk HXA.out rfl)
                clear hdep ho hJ
                try simp only [fill, slotOf, List.size_toArray, List.length_cons, List.length_nil, Nat.reduceAdd, List.getElem?_toArray, List.getElem?_cons_zero, List.getElem?_cons_succ, Option.bind_some, Act.put, List.setIfInBounds_toArray, List.set_cons_zero, List.set_cons_succ] at hK ⊢
                go_simp
                exact hK (.agg #[.string x0, .int .i64 x1, .string x2, .int .i64 x3, .int .i64 x4, .int .i64 x5, .int .i64 x6, .int .u32 x7, .int .i64 x8]) _ HJ.out rfl (fun j y h => h) _ rfl
              · obtain rfl := Option.some.inj ho.symm
                have d0 : V 0 = .func (.func 35) #[] #[.pointer (some ⟨mb, 0, none⟩)] := hdep ⟨0, .data⟩ (by simp) rfl
                have d1 : V 1 = .agg #[.string x0, .int .i64 x1, .string x2, .int .i64 x3, .int .i64 x4, .int .i64 x5, .int .i64 x6, .int .u32 x7, .int .i64 x8] := hdep ⟨1, .data⟩ (by simp) rfl
                clear hdep ho hJ
                try simp only [fill, slotOf, List.size_toArray, List.length_cons, List.length_nil, Nat.reduceAdd, List.getElem?_toArray, List.getElem?_cons_zero, List.getElem?_cons_succ, Option.bind_some, Act.put, List.setIfInBounds_toArray, List.set_cons_zero, List.set_cons_succ] at hK ⊢
                rw [d0, d1] at hK ⊢
                go_simp
                refine (HRX.out w9 HJ.out).mono ?_
                rintro e w8 ⟨rfl, hb8⟩
                exact hK (.bool true) _ (HJ.out.trans (hb8.mono HJ.out.size)) rfl (FV.mono ((fun _ _ _ => trivial) hb8)) _ rfl
              · obtain rfl := Option.some.inj ho.symm
                have d2 : V 2 = .bool true := hdep ⟨2, .data⟩ (by simp) rfl
                clear hdep ho hJ
                try simp only [fill, slotOf, List.size_toArray, List.length_cons, List.length_nil, Nat.reduceAdd, List.getElem?_toArray, List.getElem?_cons_zero, List.getElem?_cons_succ, Option.bind_some, Act.put, List.setIfInBounds_toArray, List.set_cons_zero, List.set_cons_succ] at hK ⊢
                rw [d2] at hK ⊢
                go_simp
                exact hK (.bool false) _ HJ.out rfl (fun j y h => h) _ rfl
              · obtain rfl := Option.some.inj ho.symm
                have d3 : V 3 = .bool false := hdep ⟨3, .data⟩ (by simp) rfl
                clear hdep ho hJ
                try simp only [fill, slotOf, List.size_toArray, List.length_cons, List.length_nil, Nat.reduceAdd, List.getElem?_toArray, List.getElem?_cons_zero, List.getElem?_cons_succ, Option.bind_some, Act.put, List.setIfInBounds_toArray, List.set_cons_zero, List.set_cons_succ] at hK ⊢
                rw [d3] at hK ⊢
                go_simp
                exact hK (.bool false) _ HJ.out rfl (fun j y h => h) _ rfl
              · obtain rfl := Option.some.inj ho.symm
                have d4 : V 4 = .bool false := hdep ⟨4, .guard⟩ (by simp) rfl
                clear hdep ho hJ
                try simp only [fill, slotOf, List.size_toArray, List.length_cons, List.length_nil, Nat.reduceAdd, List.getElem?_toArray, List.getElem?_cons_zero, List.getElem?_cons_succ, Option.bind_some, Act.put, List.setIfInBounds_toArray, List.set_cons_zero, List.set_cons_succ] at hK ⊢
                rw [d4] at hK ⊢
                go_simp
                exact hK (.int .i64 ((j : Int) + 1)) _ HJ.out rfl (fun j y h => h) _ rfl
              · obtain rfl := Option.some.inj ho.symm
                have d5 : V 5 = .int .i64 ((j : Int) + 1) := hdep ⟨5, .data⟩ (by simp) rfl
                have d4 : V 4 = .bool false := hdep ⟨4, .guard⟩ (by simp) rfl
                have hk9 : decide ((j : Int) + 1 > 0) = true := decide_eq_true (by omega)
                clear hdep ho hJ
                try simp only [fill, slotOf, List.size_toArray, List.length_cons, List.length_nil, Nat.reduceAdd, List.getElem?_toArray, List.getElem?_cons_zero, List.getElem?_cons_succ, Option.bind_some, Act.put, List.setIfInBounds_toArray, List.set_cons_zero, List.set_cons_succ] at hK ⊢
                rw [d5, d4] at hK ⊢
                go_simp
                exact hK (.bool true) _ HJ.out rfl (fun j y h => h) _ rfl
              · obtain rfl := Option.some.inj ho.symm
                have d6 : V 6 = .bool true := hdep ⟨6, .data⟩ (by simp) rfl
                have d4 : V 4 = .bool false := hdep ⟨4, .guard⟩ (by simp) rfl
                clear hdep ho hJ
                try simp only [fill, slotOf, List.size_toArray, List.length_cons, List.length_nil, Nat.reduceAdd, List.getElem?_toArray, List.getElem?_cons_zero, List.getElem?_cons_succ, Option.bind_some, Act.put, List.setIfInBounds_toArray, List.set_cons_zero, List.set_cons_succ] at hK ⊢
                rw [d6, d4] at hK ⊢
                go_simp
                exact hK (.bool true) _ HJ.out rfl (fun j y h => h) _ rfl
              · obtain rfl := Option.some.inj ho.symm
                have d7 : V 7 = .bool true := hdep ⟨7, .guard⟩ (by simp) rfl
                clear hdep ho hJ
                try simp only [fill, slotOf, List.size_toArray, List.length_cons, List.length_nil, Nat.reduceAdd, List.getElem?_toArray, List.getElem?_cons_zero, List.getElem?_cons_succ, Option.bind_some, Act.put, List.setIfInBounds_toArray, List.set_cons_zero, List.set_cons_succ] at hK ⊢
                rw [d7] at hK ⊢
                go_simp
                exact hK (.func (.func 38) #[] #[]) _ HJ.out rfl (fun j y h => h) _ rfl
              · obtain rfl := Option.some.inj ho.symm
                have d7 : V 7 = .bool true := hdep ⟨7, .guard⟩ (by simp) rfl
                clear hdep ho hJ
                try simp only [fill, slotOf, List.size_toArray, List.length_cons, List.length_nil, Nat.reduceAdd, List.getElem?_toArray, List.getElem?_cons_zero, List.getElem?_cons_succ, Option.bind_some, Act.put, List.setIfInBounds_toArray, List.set_cons_zero, List.set_cons_succ] at hK ⊢
                rw [d7] at hK ⊢
                go_simp
                exact hK (.slice (some ⟨sb, so, none⟩) n c) _ HJ.out rfl (fun j y h => h) _ rfl
              · obtain rfl := Option.some.inj ho.symm
                have d7 : V 7 = .bool true := hdep ⟨7, .guard⟩ (by simp) rfl
                clear hdep ho hJ
                try simp only [fill, slotOf, List.size_toArray, List.length_cons, List.length_nil, Nat.reduceAdd, List.getElem?_toArray, List.getElem?_cons_zero, List.getElem?_cons_succ, Option.bind_some, Act.put, List.setIfInBounds_toArray, List.set_cons_zero, List.set_cons_succ] at hK ⊢
                rw [d7] at hK ⊢
                go_simp
                exact hK (.int .i64 ((j : Int) + 1)) _ HJ.out rfl (fun j y h => h) _ rfl
              · obtain rfl := Option.some.inj ho.symm
                have d10 : V 10 = .int .i64 ((j : Int) + 1) := hdep ⟨10, .data⟩ (by simp) rfl
                have d7 : V 7 = .bool true := hdep ⟨7, .guard⟩ (by simp) rfl
                have hw1 : IntKind.i64.wrap (j : Int) = (j : Int) := IntWalk.i64_in _ (by omega)
                have hw2 : IntKind.i64.wrap ((j : Int) + 1 - 1) = (j : Int) := by rw [Int.add_sub_cancel]; exact hw1
                clear hdep ho hJ
                try simp only [fill, slotOf, List.size_toArray, List.length_cons, List.length_nil, Nat.reduceAdd, List.getElem?_toArray, List.getElem?_cons_zero, List.getElem?_cons_succ, Option.bind_some, Act.put, List.setIfInBounds_toArray, List.set_cons_zero, List.set_cons_succ] at hK ⊢
                rw [d10, d7] at hK ⊢
                go_simp
                exact hK (.int .i64 (j : Int)) _ HJ.out rfl (fun j y h => h) _ rfl
              · obtain rfl := Option.some.inj ho.symm
                have d9 : V 9 = .slice (some ⟨sb, so, none⟩) n c := hdep ⟨9, .data⟩ (by simp) rfl
                have d11 : V 11 = .int .i64 (j : Int) := hdep ⟨11, .data⟩ (by simp) rfl
                have d7 : V 7 = .bool true := hdep ⟨7, .guard⟩ (by simp) rfl
                have hjn : j < n := by omega
                have hjn2 : (j : Int) < (n : Int) := by omega
                clear hdep ho hJ
                try simp only [fill, slotOf, List.size_toArray, List.length_cons, List.length_nil, Nat.reduceAdd, List.getElem?_toArray, List.getElem?_cons_zero, List.getElem?_cons_succ, Option.bind_some, Act.put, List.setIfInBounds_toArray, List.set_cons_zero, List.set_cons_succ] at hK ⊢
                rw [d9, d11, d7] at hK ⊢
                go_simp
                exact hK (.pointer (some ⟨sb, so + j * 9, none⟩)) _ HJ.out rfl (fun j y h => h) _ rfl
              · obtain rfl := Option.some.inj ho.symm
                have d12 : V 12 = .pointer (some ⟨sb, so + j * 9, none⟩) := hdep ⟨12, .data⟩ (by simp) rfl
                have d7 : V 7 = .bool true := hdep ⟨7, .guard⟩ (by simp) rfl
                have u0 : w9.cell? ⟨sb, so + j * 9, none⟩ = some (.string y0) := (hJ.cell (p := ⟨sb, so + j * 9 + 0, none⟩) HSL.out).trans (HSY.out 0 _ rfl)
                have u1 : w9.cell? ⟨sb, so + j * 9 + 1, none⟩ = some (.int .i64 y1) := (hJ.cell (p := ⟨sb, so + j * 9 + 1, none⟩) HSL.out).trans (HSY.out 1 _ rfl)
                have u2 : w9.cell? ⟨sb, so + j * 9 + 2, none⟩ = some (.string y2) := (hJ.cell (p := ⟨sb, so + j * 9 + 2, none⟩) HSL.out).trans (HSY.out 2 _ rfl)
                have u3 : w9.cell? ⟨sb, so + j * 9 + 3, none⟩ = some (.int .i64 y3) := (hJ.cell (p := ⟨sb, so + j * 9 + 3, none⟩) HSL.out).trans (HSY.out 3 _ rfl)
                have u4 : w9.cell? ⟨sb, so + j * 9 + 4, none⟩ = some (.int .i64 y4) := (hJ.cell (p := ⟨sb, so + j * 9 + 4, none⟩) HSL.out).trans (HSY.out 4 _ rfl)
                have u5 : w9.cell? ⟨sb, so + j * 9 + 5, none⟩ = some (.int .i64 y5) := (hJ.cell (p := ⟨sb, so + j * 9 + 5, none⟩) HSL.out).trans (HSY.out 5 _ rfl)
                have u6 : w9.cell? ⟨sb, so + j * 9 + 6, none⟩ = some (.int .i64 y6) := (hJ.cell (p := ⟨sb, so + j * 9 + 6, none⟩) HSL.out).trans (HSY.out 6 _ rfl)
                have u7 : w9.cell? ⟨sb, so + j * 9 + 7, none⟩ = some (.int .u32 y7) := (hJ.cell (p := ⟨sb, so + j * 9 + 7, none⟩) HSL.out).trans (HSY.out 7 _ rfl)
                have u8 : w9.cell? ⟨sb, so + j * 9 + 8, none⟩ = some (.int .i64 y8) := (hJ.cell (p := ⟨sb, so + j * 9 + 8, none⟩) HSL.out).trans (HSY.out 8 _ rfl)
                clear hdep ho hJ
                try simp only [fill, slotOf, List.size_toArray, List.length_cons, List.length_nil, Nat.reduceAdd, List.getElem?_toArray, List.getElem?_cons_zero, List.getElem?_cons_succ, Option.bind_some, Act.put, List.setIfInBounds_toArray, List.set_cons_zero, List.set_cons_succ] at hK ⊢
                rw [d12, d7] at hK ⊢
                go_simp
                exact hK (.agg #[.string y0, .int .i64 y1, .string y2, .int .i64 y3, .int .i64 y4, .int .i64 y5, .int .i64 y6, .int .u32 y7, .int .i64 y8]) _ HJ.out rfl (fun j y h => h) _ rfl
              · obtain rfl := Option.some.inj ho.symm
                have d7 : V 7 = .bool true := hdep ⟨7, .guard⟩ (by simp) rfl
                have e0 : w9.cell? ⟨wr.heap.size, 0, none⟩ = some (.string x0) := (hJ.cell (p := ⟨wr.heap.size, 0, none⟩) HXL.out).trans (cell_blk HXA.out rfl)
                have e1 : w9.cell? ⟨wr.heap.size, 1, none⟩ = some (.int .i64 x1) := (hJ.cell (p := ⟨wr.heap.size, 1, none⟩) HXL.out).trans (cell_blk HXA.out rfl)
                have e2 : w9.cell? ⟨wr.heap.size, 2, none⟩ = some (.string x2) := (hJ.cell (p := ⟨wr.heap.size, 2, none⟩) HXL.out).trans (cell_blk HXA.out rfl)
                have e3 : w9.cell? ⟨wr.heap.size, 3, none⟩ = some (.int .i64 x3) := (hJ.cell (p := ⟨wr.heap.size, 3, none⟩) HXL.out).trans (cell_blk HXA.out rfl)
                have e4 : w9.cell? ⟨wr.heap.size, 4, none⟩ = some (.int .i64 x4) := (hJ.cell (p := ⟨wr.heap.size, 4, none⟩) HXL.out).trans (cell_blk HXA.out rfl)
                have e5 : w9.cell? ⟨wr.heap.size, 5, none⟩ = some (.int .i64 x5) := (hJ.cell (p := ⟨wr.heap.size, 5, none⟩) HXL.out).trans (cell_blk HXA.out rfl)
                have e6 : w9.cell? ⟨wr.heap.size, 6, none⟩ = some (.int .i64 x6) := (hJ.cell (p := ⟨wr.heap.size, 6, none⟩) HXL.out).trans (cell_blk HXA.out rfl)
                have e7 : w9.cell? ⟨wr.heap.size, 7, none⟩ = some (.int .u32 x7) := (hJ.cell (p := ⟨wr.heap.size, 7, none⟩) HXL.out).trans (cell_blk HXA.out rfl)
                have e8 : w9.cell? ⟨wr.heap.size, 8, none⟩ = some (.int .i64 x8) := (hJ.cell (p := ⟨wr.heap.size, 8, none⟩) HXL.out).trans (cell_blk HXA.out rfl)
                clear hdep ho hJ
                try simp only [fill, slotOf, List.size_toArray, List.length_cons, List.length_nil, Nat.reduceAdd, List.getElem?_toArray, List.getElem?_cons_zero, List.getElem?_cons_succ, Option.bind_some, Act.put, List.setIfInBounds_toArray, List.set_cons_zero, List.set_cons_succ] at hK ⊢
                rw [d7] at hK ⊢
                go_simp
                exact hK (.agg #[.string x0, .int .i64 x1, .string x2, .int .i64 x3, .int .i64 x4, .int .i64 x5, .int .i64 x6, .int .u32 x7, .int .i64 x8]) _ HJ.out rfl (fun j y h => h) _ rfl
              · obtain rfl := Option.some.inj ho.symm
                have d8 : V 8 = .func (.func 38) #[] #[] := hdep ⟨8, .data⟩ (by simp) rfl
                have d13 : V 13 = .agg #[.string y0, .int .i64 y1, .string y2, .int .i64 y3, .int .i64 y4, .int .i64 y5, .int .i64 y6, .int .u32 y7, .int .i64 y8] := hdep ⟨13, .data⟩ (by simp) rfl
                have d14 : V 14 = .agg #[.string x0, .int .i64 x1, .string x2, .int .i64 x3, .int .i64 x4, .int .i64 x5, .int .i64 x6, .int .u32 x7, .int .i64 x8] := hdep ⟨14, .data⟩ (by simp) rfl
                have d7 : V 7 = .bool true := hdep ⟨7, .guard⟩ (by simp) rfl
                clear hdep ho hJ
                try simp only [fill, slotOf, List.size_toArray, List.length_cons, List.length_nil, Nat.reduceAdd, List.getElem?_toArray, List.getElem?_cons_zero, List.getElem?_cons_succ, Option.bind_some, Act.put, List.setIfInBounds_toArray, List.set_cons_zero, List.set_cons_succ] at hK ⊢
                rw [d8, d13, d14, d7] at hK ⊢
                go_simp
                refine (HCM.out w9).mono ?_
                rintro e w8 ⟨rfl, hb8⟩
                exact hK (.int .i64 zz) _ (HJ.out.trans (hb8.mono HJ.out.size)) rfl (FV.mono ((fun _ _ _ => trivial) hb8)) _ rfl
              · obtain rfl := Option.some.inj ho.symm
                have d15 : V 15 = .int .i64 zz := hdep ⟨15, .data⟩ (by simp) rfl
                have d7 : V 7 = .bool true := hdep ⟨7, .guard⟩ (by simp) rfl
                have hz9 : decide (zz ≥ 0) = true := HZ.out
                clear hdep ho hJ
                try simp only [fill, slotOf, List.size_toArray, List.length_cons, List.length_nil, Nat.reduceAdd, List.getElem?_toArray, List.getElem?_cons_zero, List.getElem?_cons_succ, Option.bind_some, Act.put, List.setIfInBounds_toArray, List.set_cons_zero, List.set_cons_succ] at hK ⊢
                rw [d15, d7] at hK ⊢
                go_simp
                exact hK (.bool true) _ HJ.out rfl (fun j y h => h) _ rfl
              · obtain rfl := Option.some.inj ho.symm
                have d7 : V 7 = .bool true := hdep ⟨7, .data⟩ (by simp) rfl
                have d16 : V 16 = .bool true := hdep ⟨16, .data⟩ (by simp) rfl
                have d4 : V 4 = .bool false := hdep ⟨4, .guard⟩ (by simp) rfl
                clear hdep ho hJ
                try simp only [fill, slotOf, List.size_toArray, List.length_cons, List.length_nil, Nat.reduceAdd, List.getElem?_toArray, List.getElem?_cons_zero, List.getElem?_cons_succ, Option.bind_some, Act.put, List.setIfInBounds_toArray, List.set_cons_zero, List.set_cons_succ] at hK ⊢
                rw [d7, d16, d4] at hK ⊢
                go_simp
                exact hK (.bool true) _ HJ.out rfl (fun j y h => h) _ rfl
              · obtain rfl := Option.some.inj ho.symm
                have d4 : V 4 = .bool false := hdep ⟨4, .data⟩ (by simp) rfl
                have d17 : V 17 = .bool true := hdep ⟨17, .data⟩ (by simp) rfl
                clear hdep ho hJ
                try simp only [fill, slotOf, List.size_toArray, List.length_cons, List.length_nil, Nat.reduceAdd, List.getElem?_toArray, List.getElem?_cons_zero, List.getElem?_cons_succ, Option.bind_some, Act.put, List.setIfInBounds_toArray, List.set_cons_zero, List.set_cons_succ] at hK ⊢
                rw [d4, d17] at hK ⊢
                go_simp
                exact hK (.bool true) _ HJ.out rfl (fun j y h => h) _ rfl
            · intro V w9 hJ hall
              have dL : V 18 = .bool true := hall 18 (by decide)
              have HJ9 := Lib.hid hJ
              clear hall hJ
              simp only [fill, slotOf, List.size_toArray, List.length_cons, List.length_nil, Nat.reduceAdd, List.getElem?_toArray, List.getElem?_cons_zero, List.getElem?_cons_succ, Option.bind_some, Act.put, List.setIfInBounds_toArray, List.set_cons_zero, List.set_cons_succ]
              rw [dL]
              clear dL
              have HBZ := Lib.hid (HAL.out.trans (HJ9.out.mono HAL.out.size))
              go_wp2_with fail
              go_ret
              exact ⟨HNO.out, HBZ.out⟩
          · have HZ := Lib.hid (show decide (zz ≥ 0) = false from decide_eq_false hge)
            have HOK2 := Lib.hid (HOK.out.succ (by rw [← HSE.out, ← HBX.out]) (fun _ => by rw [← HSE.out, ← HRE.out]; show cmpS y0 x0 < 0; rw [← hzz]; omega))
            clear hbx hzz hge
            refine wp_region_fill (by kernel_rfl) (by kernel_rfl) (by kernel_rfl) (Below (wr.alloc (.cells #[.string x0, .int .i64 x1, .string x2, .int .i64 x3, .int .i64 x4, .int .i64 x5, .int .i64 x6, .int .u32 x7, .int .i64 x8] 53)).heap.size (wr.alloc (.cells #[.string x0, .int .i64 x1, .string x2, .int .i64 x3, .int .i64 x4, .int .i64 x5, .int .i64 x6, .int .u32 x7, .int .i64 x8] 53))) (FV (fun j_9 => match j_9 with | 0 => some (.func (.func 35) #[] #[.pointer (some ⟨mb, 0, none⟩)]) | 1 => some (.agg #[.string x0, .int .i64 x1, .string x2, .int .i64 x3, .int .i64 x4, .int .i64 x5, .int .i64 x6, .int .u32 x7, .int .i64 x8]) | 2 => some (.bool true) | 3 => some (.bool false) | 4 => some (.bool false) | 5 => some (.int .i64 ((j : Int) + 1)) | 6 => some (.bool true) | 7 => some (.bool true) | 8 => some (.func (.func 38) #[] #[]) | 9 => some (.slice (some ⟨sb, so, none⟩) n c) | 10 => some (.int .i64 ((j : Int) + 1)) | 11 => some (.int .i64 (j : Int)) | 12 => some (.pointer (some ⟨sb, so + j * 9, none⟩)) | 13 => some (.agg #[.string y0, .int .i64 y1, .string y2, .int .i64 y3, .int .i64 y4, .int .i64 y5, .int .i64 y6, .int .u32 y7, .int .i64 y8]) | 14 => some (.agg #[.string x0, .int .i64 x1, .string x2, .int .i64 x3, .int .i64 x4, .int .i64 x5, .int .i64 x6, .int .u32 x7, .int .i64 x8]) | 15 => some (.int .i64 zz) | 16 => some (.bool false) | 17 => some (.bool false) | 18 => some (.bool false) | _ => none) (fun _ _ => True)) (Below.refl _ _).drew ?_ ?_
            · intro i9 o ho V w9 K hJ hdep hK
              have HJ := Lib.hid hJ
              simp only [fill, slotOf, List.size_toArray, List.length_cons, List.length_nil, Nat.reduceAdd, List.getElem?_toArray, List.getElem?_cons_zero, List.getElem?_cons_succ, Option.bind_some, Act.put, List.setIfInBounds_toArray, List.set_cons_zero, List.set_cons_succ] at hK ⊢
              have hin : i9 < 19 := (Array.getElem?_eq_some_iff.1 ho).1
              have hcs : i9 = 0 ∨ i9 = 1 ∨ i9 = 2 ∨ i9 = 3 ∨ i9 = 4 ∨ i9 = 5 ∨ i9 = 6 ∨ i9 = 7 ∨ i9 = 8 ∨ i9 = 9 ∨ i9 = 10 ∨ i9 = 11 ∨ i9 = 12 ∨ i9 = 13 ∨ i9 = 14 ∨ i9 = 15 ∨ i9 = 16 ∨ i9 = 17 ∨ i9 = 18 := by omega
              clear hin
              rcases hcs with rfl | rfl | rfl | rfl | rfl | rfl | rfl | rfl | rfl | rfl | rfl | rfl | rfl | rfl | rfl | rfl | rfl | rfl | rfl
              · obtain rfl := Option.some.inj ho.symm
                clear hdep ho hJ
                try simp only [fill, slotOf, List.size_toArray, List.length_cons, List.length_nil, Nat.reduceAdd, List.getElem?_toArray, List.getElem?_cons_zero, List.getElem?_cons_succ, Option.bind_some, Act.put, List.setIfInBounds_toArray, List.set_cons_zero, List.set_cons_succ] at hK ⊢
                go_simp
                exact hK (.func (.func 35) #[] #[.pointer (some ⟨mb, 0, none⟩)]) _ HJ.out rfl (fun j y h => h) _ rfl
              · obtain rfl := Option.some.inj ho.symm
                have e0 : w9.cell? ⟨wr.heap.size, 0, none⟩ = some (.string x0) := (hJ.cell (p := ⟨wr.heap.size, 0, none⟩) HXL.out).trans (cell_blk HXA.out rfl)
                have e1 : w9.cell? ⟨wr.heap.size, 1, none⟩ = some (.int .i64 x1) := (hJ.cell (p := ⟨wr.heap.size, 1, none⟩) HXL.out).trans (cell_blk HXA.out rfl)
                have e2 : w9.cell? ⟨wr.heap.size, 2, none⟩ = some (.string x2) := (hJ.cell (p := ⟨wr.heap.size, 2, none⟩) HXL.out).trans (cell_blk HXA.out rfl)
                have e3 : w9.cell? ⟨wr.heap.size, 3, none⟩ = some (.int .i64 x3) := (hJ.cell (p := ⟨wr.heap.size, 3, none⟩) HXL.out).trans (cell_blk HXA.out rfl)
                have e4 : w9.cell? ⟨wr.heap.size, 4, none⟩ = some (.int .i64 x4) := (hJ.cell (p := ⟨wr.heap.size, 4, none⟩) HXL.out).trans (cell_blk HXA.out rfl)
                have e5 : w9.cell? ⟨wr.heap.size, 5, none⟩ = some (.int .i64 x5) := (hJ.cell (p := ⟨wr.heap.size, 5, none⟩) HXL.out).trans (cell_blk HXA.out rfl)
                have e6 : w9.cell? ⟨wr.heap.size, 6, none⟩ = some (.int .i64 x6) := (hJ.cell (p := ⟨wr.heap.size, 6, none⟩) HXL.out).trans (cell_blk HXA.out rfl)
                have e7 : w9.cell? ⟨wr.heap.size, 7, none⟩ = some (.int .u32 x7) := (hJ.cell (p := ⟨wr.heap.size, 7, none⟩) HXL.out).trans (cell_blk HXA.out rfl)
                have e8 : w9.cell? ⟨wr.heap.size, 8, none⟩ = some (.int .i64 x8) := (hJ.cell (p := ⟨wr.heap.size, 8, none⟩) HXL.out).trans (cell_blk HXA.out rfl)
                clear hdep ho hJ
                try simp only [fill, slotOf, List.size_toArray, List.length_cons, List.length_nil, Nat.reduceAdd, List.getElem?_toArray, List.getElem?_cons_zero, List.getElem?_cons_succ, Option.bind_some, Act.put, List.setIfInBounds_toArray, List.set_cons_zero, List.set_cons_succ] at hK ⊢
                go_simp
                exact hK (.agg #[.string x0, .int .i64 x1, .string x2, .int .i64 x3, .int .i64 x4, .int .i64 x5, .int .i64 x6, .int .u32 x7, .int .i64 x8]) _ HJ.out rfl (fun j y h => h) _ rfl
              · obtain rfl := Option.some.inj ho.symm
                have d0 : V 0 = .func (.func 35) #[] #[.pointer (some ⟨mb, 0, none⟩)] := hdep ⟨0, .data⟩ (by simp) rfl
                have d1 : V 1 = .agg #[.string x0, .int .i64 x1, .string x2, .int .i64 x3, .int .i64 x4, .int .i64 x5, .int .i64 x6, .int .u32 x7, .int .i64 x8] := hdep ⟨1, .data⟩ (by simp) rfl
                clear hdep ho hJ
                try simp only [fill, slotOf, List.size_toArray, List.length_cons, List.length_nil, Nat.reduceAdd, List.getElem?_toArray, List.getElem?_cons_zero, List.getElem?_cons_succ, Option.bind_some, Act.put, List.setIfInBounds_toArray, List.set_cons_zero, List.set_cons_succ] at hK ⊢
                rw [d0, d1] at hK ⊢
                go_simp
                refine (HRX.out w9 HJ.out).mono ?_
                rintro e w8 ⟨rfl, hb8⟩
                exact hK (.bool true) _ (HJ.out.trans (hb8.mono HJ.out.size)) rfl (FV.mono ((fun _ _ _ => trivial) hb8)) _ rfl
              · obtain rfl := Option.some.inj ho.symm
                have d2 : V 2 = .bool true := hdep ⟨2, .data⟩ (by simp) rfl
                clear hdep ho hJ
                try simp only [fill, slotOf, List.size_toArray, List.length_cons, List.length_nil, Nat.reduceAdd, List.getElem?_toArray, List.getElem?_cons_zero, List.getElem?_cons_succ, Option.bind_some, Act.put, List.setIfInBounds_toArray, List.set_cons_zero, List.set_cons_succ] at hK ⊢
                rw [d2] at hK ⊢
                go_simp
                exact hK (.bool false) _ HJ.out rfl (fun j y h => h) _ rfl
              · obtain rfl := Option.some.inj ho.symm
                have d3 : V 3 = .bool false := hdep ⟨3, .data⟩ (by simp) rfl
                clear hdep ho hJ
                try simp only [fill, slotOf, List.size_toArray, List.length_cons, List.length_nil, Nat.reduceAdd, List.getElem?_toArray, List.getElem?_cons_zero, List.getElem?_cons_succ, Option.bind_some, Act.put, List.setIfInBounds_toArray, List.set_cons_zero, List.set_cons_succ] at hK ⊢
                rw [d3] at hK ⊢
                go_simp
                exact hK (.bool false) _ HJ.out rfl (fun j y h => h) _ rfl
              · obtain rfl := Option.some.inj ho.symm
                have d4 : V 4 = .bool false := hdep ⟨4, .guard⟩ (by simp) rfl
                clear hdep ho hJ
                try simp only [fill, slotOf, List.size_toArray, List.length_cons, List.length_nil, Nat.reduceAdd, List.getElem?_toArray, List.getElem?_cons_zero, List.getElem?_cons_succ, Option.bind_some, Act.put, List.setIfInBounds_toArray, List.set_cons_zero, List.set_cons_succ] at hK ⊢
                rw [d4] at hK ⊢
                go_simp
                exact hK (.int .i64 ((j : Int) + 1)) _ HJ.out rfl (fun j y h => h) _ rfl
              · obtain rfl := Option.some.inj ho.symm
                have d5 : V 5 = .int .i64 ((j : Int) + 1) := hdep ⟨5, .data⟩ (by simp) rfl
                have d4 : V 4 = .bool false := hdep ⟨4, .guard⟩ (by simp) rfl
                have hk9 : decide ((j : Int) + 1 > 0) = true := decide_eq_true (by omega)
                clear hdep ho hJ
                try simp only [fill, slotOf, List.size_toArray, List.length_cons, List.length_nil, Nat.reduceAdd, List.getElem?_toArray, List.getElem?_cons_zero, List.getElem?_cons_succ, Option.bind_some, Act.put, List.setIfInBounds_toArray, List.set_cons_zero, List.set_cons_succ] at hK ⊢
                rw [d5, d4] at hK ⊢
                go_simp
                exact hK (.bool true) _ HJ.out rfl (fun j y h => h) _ rfl
              · obtain rfl := Option.some.inj ho.symm
                have d6 : V 6 = .bool true := hdep ⟨6, .data⟩ (by simp) rfl
                have d4 : V 4 = .bool false := hdep ⟨4, .guard⟩ (by simp) rfl
                clear hdep ho hJ
                try simp only [fill, slotOf, List.size_toArray, List.length_cons, List.length_nil, Nat.reduceAdd, List.getElem?_toArray, List.getElem?_cons_zero, List.getElem?_cons_succ, Option.bind_some, Act.put, List.setIfInBounds_toArray, List.set_cons_zero, List.set_cons_succ] at hK ⊢
                rw [d6, d4] at hK ⊢
                go_simp
                exact hK (.bool true) _ HJ.out rfl (fun j y h => h) _ rfl
              · obtain rfl := Option.some.inj ho.symm
                have d7 : V 7 = .bool true := hdep ⟨7, .guard⟩ (by simp) rfl
                clear hdep ho hJ
                try simp only [fill, slotOf, List.size_toArray, List.length_cons, List.length_nil, Nat.reduceAdd, List.getElem?_toArray, List.getElem?_cons_zero, List.getElem?_cons_succ, Option.bind_some, Act.put, List.setIfInBounds_toArray, List.set_cons_zero, List.set_cons_succ] at hK ⊢
                rw [d7] at hK ⊢
                go_simp
                exact hK (.func (.func 38) #[] #[]) _ HJ.out rfl (fun j y h => h) _ rfl
              · obtain rfl := Option.some.inj ho.symm
                have d7 : V 7 = .bool true := hdep ⟨7, .guard⟩ (by simp) rfl
                clear hdep ho hJ
                try simp only [fill, slotOf, List.size_toArray, List.length_cons, List.length_nil, Nat.reduceAdd, List.getElem?_toArray, List.getElem?_cons_zero, List.getElem?_cons_succ, Option.bind_some, Act.put, List.setIfInBounds_toArray, List.set_cons_zero, List.set_cons_succ] at hK ⊢
                rw [d7] at hK ⊢
                go_simp
                exact hK (.slice (some ⟨sb, so, none⟩) n c) _ HJ.out rfl (fun j y h => h) _ rfl
              · obtain rfl := Option.some.inj ho.symm
                have d7 : V 7 = .bool true := hdep ⟨7, .guard⟩ (by simp) rfl
                clear hdep ho hJ
                try simp only [fill, slotOf, List.size_toArray, List.length_cons, List.length_nil, Nat.reduceAdd, List.getElem?_toArray, List.getElem?_cons_zero, List.getElem?_cons_succ, Option.bind_some, Act.put, List.setIfInBounds_toArray, List.set_cons_zero, List.set_cons_succ] at hK ⊢
                rw [d7] at hK ⊢
                go_simp
                exact hK (.int .i64 ((j : Int) + 1)) _ HJ.out rfl (fun j y h => h) _ rfl
              · obtain rfl := Option.some.inj ho.symm
                have d10 : V 10 = .int .i64 ((j : Int) + 1) := hdep ⟨10, .data⟩ (by simp) rfl
                have d7 : V 7 = .bool true := hdep ⟨7, .guard⟩ (by simp) rfl
                have hw1 : IntKind.i64.wrap (j : Int) = (j : Int) := IntWalk.i64_in _ (by omega)
                have hw2 : IntKind.i64.wrap ((j : Int) + 1 - 1) = (j : Int) := by rw [Int.add_sub_cancel]; exact hw1
                clear hdep ho hJ
                try simp only [fill, slotOf, List.size_toArray, List.length_cons, List.length_nil, Nat.reduceAdd, List.getElem?_toArray, List.getElem?_cons_zero, List.getElem?_cons_succ, Option.bind_some, Act.put, List.setIfInBounds_toArray, List.set_cons_zero, List.set_cons_succ] at hK ⊢
                rw [d10, d7] at hK ⊢
                go_simp
                exact hK (.int .i64 (j : Int)) _ HJ.out rfl (fun j y h => h) _ rfl
              · obtain rfl := Option.some.inj ho.symm
                have d9 : V 9 = .slice (some ⟨sb, so, none⟩) n c := hdep ⟨9, .data⟩ (by simp) rfl
                have d11 : V 11 = .int .i64 (j : Int) := hdep ⟨11, .data⟩ (by simp) rfl
                have d7 : V 7 = .bool true := hdep ⟨7, .guard⟩ (by simp) rfl
                have hjn : j < n := by omega
                have hjn2 : (j : Int) < (n : Int) := by omega
                clear hdep ho hJ
                try simp only [fill, slotOf, List.size_toArray, List.length_cons, List.length_nil, Nat.reduceAdd, List.getElem?_toArray, List.getElem?_cons_zero, List.getElem?_cons_succ, Option.bind_some, Act.put, List.setIfInBounds_toArray, List.set_cons_zero, List.set_cons_succ] at hK ⊢
                rw [d9, d11, d7] at hK ⊢
                go_simp
                exact hK (.pointer (some ⟨sb, so + j * 9, none⟩)) _ HJ.out rfl (fun j y h => h) _ rfl
              · obtain rfl := Option.some.inj ho.symm
                have d12 : V 12 = .pointer (some ⟨sb, so + j * 9, none⟩) := hdep ⟨12, .data⟩ (by simp) rfl
                have d7 : V 7 = .bool true := hdep ⟨7, .guard⟩ (by simp) rfl
                have u0 : w9.cell? ⟨sb, so + j * 9, none⟩ = some (.string y0) := (hJ.cell (p := ⟨sb, so + j * 9 + 0, none⟩) HSL.out).trans (HSY.out 0 _ rfl)
                have u1 : w9.cell? ⟨sb, so + j * 9 + 1, none⟩ = some (.int .i64 y1) := (hJ.cell (p := ⟨sb, so + j * 9 + 1, none⟩) HSL.out).trans (HSY.out 1 _ rfl)
                have u2 : w9.cell? ⟨sb, so + j * 9 + 2, none⟩ = some (.string y2) := (hJ.cell (p := ⟨sb, so + j * 9 + 2, none⟩) HSL.out).trans (HSY.out 2 _ rfl)
                have u3 : w9.cell? ⟨sb, so + j * 9 + 3, none⟩ = some (.int .i64 y3) := (hJ.cell (p := ⟨sb, so + j * 9 + 3, none⟩) HSL.out).trans (HSY.out 3 _ rfl)
                have u4 : w9.cell? ⟨sb, so + j * 9 + 4, none⟩ = some (.int .i64 y4) := (hJ.cell (p := ⟨sb, so + j * 9 + 4, none⟩) HSL.out).trans (HSY.out 4 _ rfl)
                have u5 : w9.cell? ⟨sb, so + j * 9 + 5, none⟩ = some (.int .i64 y5) := (hJ.cell (p := ⟨sb, so + j * 9 + 5, none⟩) HSL.out).trans (HSY.out 5 _ rfl)
                have u6 : w9.cell? ⟨sb, so + j * 9 + 6, none⟩ = some (.int .i64 y6) := (hJ.cell (p := ⟨sb, so + j * 9 + 6, none⟩) HSL.out).trans (HSY.out 6 _ rfl)
                have u7 : w9.cell? ⟨sb, so + j * 9 + 7, none⟩ = some (.int .u32 y7) := (hJ.cell (p := ⟨sb, so + j * 9 + 7, none⟩) HSL.out).trans (HSY.out 7 _ rfl)
                have u8 : w9.cell? ⟨sb, so + j * 9 + 8, none⟩ = some (.int .i64 y8) := (hJ.cell (p := ⟨sb, so + j * 9 + 8, none⟩) HSL.out).trans (HSY.out 8 _ rfl)
                clear hdep ho hJ
                try simp only [fill, slotOf, List.size_toArray, List.length_cons, List.length_nil, Nat.reduceAdd, List.getElem?_toArray, List.getElem?_cons_zero, List.getElem?_cons_succ, Option.bind_some, Act.put, List.setIfInBounds_toArray, List.set_cons_zero, List.set_cons_succ] at hK ⊢
                rw [d12, d7] at hK ⊢
                go_simp
                exact hK (.agg #[.string y0, .int .i64 y1, .string y2, .int .i64 y3, .int .i64 y4, .int .i64 y5, .int .i64 y6, .int .u32 y7, .int .i64 y8]) _ HJ.out rfl (fun j y h => h) _ rfl
              · obtain rfl := Option.some.inj ho.symm
                have d7 : V 7 = .bool true := hdep ⟨7, .guard⟩ (by simp) rfl
                have e0 : w9.cell? ⟨wr.heap.size, 0, none⟩ = some (.string x0) := (hJ.cell (p := ⟨wr.heap.size, 0, none⟩) HXL.out).trans (cell_blk HXA.out rfl)
                have e1 : w9.cell? ⟨wr.heap.size, 1, none⟩ = some (.int .i64 x1) := (hJ.cell (p := ⟨wr.heap.size, 1, none⟩) HXL.out).trans (cell_blk HXA.out rfl)
                have e2 : w9.cell? ⟨wr.heap.size, 2, none⟩ = some (.string x2) := (hJ.cell (p := ⟨wr.heap.size, 2, none⟩) HXL.out).trans (cell_blk HXA.out rfl)
                have e3 : w9.cell? ⟨wr.heap.size, 3, none⟩ = some (.int .i64 x3) := (hJ.cell (p := ⟨wr.heap.size, 3, none⟩) HXL.out).trans (cell_blk HXA.out rfl)
                have e4 : w9.cell? ⟨wr.heap.size, 4, none⟩ = some (.int .i64 x4) := (hJ.cell (p := ⟨wr.heap.size, 4, none⟩) HXL.out).trans (cell_blk HXA.out rfl)
                have e5 : w9.cell? ⟨wr.heap.size, 5, none⟩ = some (.int .i64 x5) := (hJ.cell (p := ⟨wr.heap.size, 5, none⟩) HXL.out).trans (cell_blk HXA.out rfl)
                have e6 : w9.cell? ⟨wr.heap.size, 6, none⟩ = some (.int .i64 x6) := (hJ.cell (p := ⟨wr.heap.size, 6, none⟩) HXL.out).trans (cell_blk HXA.out rfl)
                have e7 : w9.cell? ⟨wr.heap.size, 7, none⟩ = some (.int .u32 x7) := (hJ.cell (p := ⟨wr.heap.size, 7, none⟩) HXL.out).trans (cell_blk HXA.out rfl)
                have e8 : w9.cell? ⟨wr.heap.size, 8, none⟩ = some (.int .i64 x8) := (hJ.cell (p := ⟨wr.heap.size, 8, none⟩) HXL.out).trans (cell_blk HXA.out rfl)
                clear hdep ho hJ
                try simp only [fill, slotOf, List.size_toArray, List.length_cons, List.length_nil, Nat.reduceAdd, List.getElem?_toArray, List.getElem?_cons_zero, List.getElem?_cons_succ, Option.bind_some, Act.put, List.setIfInBounds_toArray, List.set_cons_zero, List.set_cons_succ] at hK ⊢
                rw [d7] at hK ⊢
                go_simp
                exact hK (.agg #[.string x0, .int .i64 x1, .string x2, .int .i64 x3, .int .i64 x4, .int .i64 x5, .int .i64 x6, .int .u32 x7, .int .i64 x8]) _ HJ.out rfl (fun j y h => h) _ rfl
              · obtain rfl := Option.some.inj ho.symm
                have d8 : V 8 = .func (.func 38) #[] #[] := hdep ⟨8, .data⟩ (by simp) rfl
                have d13 : V 13 = .agg #[.string y0, .int .i64 y1, .string y2, .int .i64 y3, .int .i64 y4, .int .i64 y5, .int .i64 y6, .int .u32 y7, .int .i64 y8] := hdep ⟨13, .data⟩ (by simp) rfl
                have d14 : V 14 = .agg #[.string x0, .int .i64 x1, .string x2, .int .i64 x3, .int .i64 x4, .int .i64 x5, .int .i64 x6, .int .u32 x7, .int .i64 x8] := hdep ⟨14, .data⟩ (by simp) rfl
                have d7 : V 7 = .bool true := hdep ⟨7, .guard⟩ (by simp) rfl
                clear hdep ho hJ
                try simp only [fill, slotOf, List.size_toArray, List.length_cons, List.length_nil, Nat.reduceAdd, List.getElem?_toArray, List.getElem?_cons_zero, List.getElem?_cons_succ, Option.bind_some, Act.put, List.setIfInBounds_toArray, List.set_cons_zero, List.set_cons_succ] at hK ⊢
                rw [d8, d13, d14, d7] at hK ⊢
                go_simp
                refine (HCM.out w9).mono ?_
                rintro e w8 ⟨rfl, hb8⟩
                exact hK (.int .i64 zz) _ (HJ.out.trans (hb8.mono HJ.out.size)) rfl (FV.mono ((fun _ _ _ => trivial) hb8)) _ rfl
              · obtain rfl := Option.some.inj ho.symm
                have d15 : V 15 = .int .i64 zz := hdep ⟨15, .data⟩ (by simp) rfl
                have d7 : V 7 = .bool true := hdep ⟨7, .guard⟩ (by simp) rfl
                have hz9 : decide (zz ≥ 0) = false := HZ.out
                clear hdep ho hJ
                try simp only [fill, slotOf, List.size_toArray, List.length_cons, List.length_nil, Nat.reduceAdd, List.getElem?_toArray, List.getElem?_cons_zero, List.getElem?_cons_succ, Option.bind_some, Act.put, List.setIfInBounds_toArray, List.set_cons_zero, List.set_cons_succ] at hK ⊢
                rw [d15, d7] at hK ⊢
                go_simp
                exact hK (.bool false) _ HJ.out rfl (fun j y h => h) _ rfl
              · obtain rfl := Option.some.inj ho.symm
                have d7 : V 7 = .bool true := hdep ⟨7, .data⟩ (by simp) rfl
                have d16 : V 16 = .bool false := hdep ⟨16, .data⟩ (by simp) rfl
                have d4 : V 4 = .bool false := hdep ⟨4, .guard⟩ (by simp) rfl
                clear hdep ho hJ
                try simp only [fill, slotOf, List.size_toArray, List.length_cons, List.length_nil, Nat.reduceAdd, List.getElem?_toArray, List.getElem?_cons_zero, List.getElem?_cons_succ, Option.bind_some, Act.put, List.setIfInBounds_toArray, List.set_cons_zero, List.set_cons_succ] at hK ⊢
                rw [d7, d16, d4] at hK ⊢
                go_simp
                exact hK (.bool false) _ HJ.out rfl (fun j y h => h) _ rfl
              · obtain rfl := Option.some.inj ho.symm
                have d4 : V 4 = .bool false := hdep ⟨4, .data⟩ (by simp) rfl
                have d17 : V 17 = .bool false := hdep ⟨17, .data⟩ (by simp) rfl
                clear hdep ho hJ
                try simp only [fill, slotOf, List.size_toArray, List.length_cons, List.length_nil, Nat.reduceAdd, List.getElem?_toArray, List.getElem?_cons_zero, List.getElem?_cons_succ, Option.bind_some, Act.put, List.setIfInBounds_toArray, List.set_cons_zero, List.set_cons_succ] at hK ⊢
                rw [d4, d17] at hK ⊢
                go_simp
                exact hK (.bool false) _ HJ.out rfl (fun j y h => h) _ rfl
            · intro V w9 hJ hall
              have dL : V 18 = .bool false := hall 18 (by decide)
              have HJ9 := Lib.hid hJ
              clear hall hJ
              simp only [fill, slotOf, List.size_toArray, List.length_cons, List.length_nil, Nat.reduceAdd, List.getElem?_toArray, List.getElem?_cons_zero, List.getElem?_cons_succ, Option.bind_some, Act.put, List.setIfInBounds_toArray, List.set_cons_zero, List.set_cons_succ]
              rw [dL]
              clear dL
              have HBZ := Lib.hid (HAL.out.trans (HJ9.out.mono HAL.out.size))
              go_wp2_with fail
              go_roundw
              case rel => exact ⟨j + 1 + 1, by omega, by go_num, HOK2, HBZ⟩
              case measure => simp [intOf]; omega
    · obtain rfl : k = n := by omega
      have HY := Lib.hid (RisIs.yes HOK.out)
      clear hkn
      go_wp2_with fail
      go_ret
      exact ⟨HY.out, HB.out⟩

end Go.Proofs.YtbdgcfimbblncaaGreatDoor
end PkMR7_0
section PkMR7_1
/- Manifests: keys: which texts are one; package manifest's isKey, walked. -/
namespace Go.Proofs.YtbdgcfimbblncaaGreatDoor
open Go.RowKit LabPlain
set_option linter.unusedVariables false

def allK (s : ByteArray) : Nat → Bool
  | 0 => true
  | k + 1 => allK s k && (decide (33 ≤ at_ s k) && decide (at_ s k ≤ 126))
theorem allK_no {s : ByteArray} {k : Nat} (h : (decide (33 ≤ at_ s k) && decide (at_ s k ≤ 126)) = false) : ∀ m, allK s (k + 1 + m) = false
  | 0 => by show (allK s k && _) = false; rw [h, Bool.and_false]
  | m + 1 => by show (allK s (k + 1 + m) && _) = false; rw [allK_no h m, Bool.false_and]
def keyB (s : ByteArray) : Bool := decide (1 ≤ s.size) && (decide (s.size ≤ 40) && allK s s.size)
set_option maxRecDepth 100000 in
set_option maxHeartbeats 1000000 in
theorem iskey_any (s : ByteArray) (hs : s.size ≤ 9223372036854775807) (w : World) :
    Calls Tryz.prog 83 #[.string s] w fun e w' => e = .returned (.bool (keyB s)) ∧ w' = w := by
  by_cases h1 : s.size < 1
  · have hR := Lib.hid (show keyB s = false by unfold keyB; simp [show ¬ 1 ≤ s.size by omega])
    have h1i : (s.size : Int) < 1 := by omega
    clear h1
    go_enter Tryz.func83, Tryz.ntmps83
    go_wp2_with fail
    go_ret
    rw [hR.out]; exact ⟨rfl, rfl⟩
  · by_cases h8 : 40 < s.size
    · have hR := Lib.hid (show keyB s = false by unfold keyB; simp [show ¬ s.size ≤ 40 by omega])
      have h1i : (1 : Int) ≤ (s.size : Int) := by omega
      have h8i : (40 : Int) < (s.size : Int) := by omega
      clear h1 h8
      go_enter Tryz.func83, Tryz.ntmps83
      go_wp2_with fail
      go_ret
      rw [hR.out]; exact ⟨rfl, rfl⟩
    · have h1i : (1 : Int) ≤ (s.size : Int) := by omega
      have h8i : (s.size : Int) ≤ 40 := by omega
      have hR := Lib.hid (show keyB s = allK s s.size by unfold keyB; rw [decide_eq_true (show 1 ≤ s.size by omega), decide_eq_true (show s.size ≤ 40 by omega)]; rfl)
      clear h1 h8
      go_enter Tryz.func83, Tryz.ntmps83
      go_wp2_with fail
      go_loop [3, 14] (fun _ s14 => ∃ k : Nat, k ≤ s.size ∧ s14 = .int .i64 (k : Int) ∧ Hid (allK s k = true)) (fun _ s14 => s.size - (intOf s14).toNat)
      case atStart => exact ⟨0, by omega, rfl, Lib.hid rfl⟩
      case round =>
        obtain ⟨k, hk, rfl, HA⟩ := hrel
        by_cases hks : k < s.size
        · obtain ⟨c, hc⟩ : ∃ c, c = at_ s k := ⟨_, rfl⟩
          have hsk : (s[k]'hks).toNat = c := by rw [hc, at_get s k hks]
          have hcl : c < 256 := by rw [hc]; exact at_lt s k
          have HCK := Lib.hid hc
          have HNO := Lib.hid (show (decide (33 ≤ c) && decide (c ≤ 126)) = false → keyB s = false from fun hb => by
            rw [hR.out]
            have := allK_no (s := s) (k := k) (by rw [← hc]; exact hb) (s.size - (k + 1))
            rw [show k + 1 + (s.size - (k + 1)) = s.size from by omega] at this
            exact this)
          clear hc
          by_cases h33 : c < 33
          · have h33i : (c : Int) < 33 := by omega
            have HF := Lib.hid (HNO.out (by simp [show ¬ 33 ≤ c by omega]))
            clear h33
            go_wp2_with fail
            go_ret
            rw [HF.out]; exact ⟨rfl, rfl⟩
          · have h33i : (33 : Int) ≤ (c : Int) := by omega
            by_cases h126 : 126 < c
            · have h126i : (126 : Int) < (c : Int) := by omega
              have HF := Lib.hid (HNO.out (by simp [show ¬ c ≤ 126 by omega]))
              clear h33 h126
              go_wp2_with fail
              go_ret
              rw [HF.out]; exact ⟨rfl, rfl⟩
            · have h126i : (c : Int) ≤ 126 := by omega
              have HA2 := Lib.hid (show allK s (k + 1) = true by rw [allK, HA.out, ← HCK.out, decide_eq_true (show 33 ≤ c by omega), decide_eq_true (show c ≤ 126 by omega)]; rfl)
              clear h33 h126
              go_wp2_with fail
              go_round
              case rel => exact ⟨k + 1, by omega, by go_num, HA2⟩
              case measure => simp [intOf]; omega
        · obtain rfl : k = s.size := by omega
          have HT := Lib.hid (show keyB s = true by rw [hR.out]; exact HA.out)
          clear hks
          go_wp2_with fail
          go_ret
          rw [HT.out]; exact ⟨rfl, rfl⟩
end Go.Proofs.YtbdgcfimbblncaaGreatDoor
end PkMR7_1
section PkMR7_2
/- Manifests: which entries are right, and which manifests. Written by genmfn.py. -/
namespace Go.Proofs.YtbdgcfimbblncaaGreatDoor
open Go.RowKit LabPlain
set_option linter.unusedVariables false

def ParIs (z : Int) (e : Ending) : Prop := ∃ a n c, e = .returned (.tuple #[.slice a n c, .int .i64 z])
/-- is it an entry? (pk: its part is one) -/
def entB (x : EntV) (pk : Bool) : Bool := keyB x.key && (withinB x.win 0 1099511627775 && (pk && (decide (0 ≤ x.fst) && (decide (x.fst ≤ x.lst) && (decide (x.lst < 1099511627776) && (withinB x.rows 1 2048 && (withinB x.size 1 262144 && withinB x.born 0 1099511627775)))))))

set_option maxRecDepth 100000 in
set_option maxHeartbeats 4000000 in
theorem rightEntry_any {w : World} (pf : ByteArray → Int) (x0 : ByteArray) (x1 : Int) (x2 : ByteArray) (x3 x4 x5 x6 x7 x8 : Int) (h0 : x0.size ≤ 140737488355328) (hP : ∀ (W : World), Below w.heap.size w W → Calls Tryz.prog 82 #[.string x2] W fun e w' => ParIs (pf x2) e ∧ Below W.heap.size W w') :
    Calls Tryz.prog 36 #[.agg #[.string x0, .int .i64 x1, .string x2, .int .i64 x3, .int .i64 x4, .int .i64 x5, .int .i64 x6, .int .u32 x7, .int .i64 x8]] w fun e w' => e = .returned (.bool (entB ⟨x0, x1, x2, x3, x4, x5, x6, x7, x8⟩ (pf x2 == 0))) ∧ Below w.heap.size w w' := by
  obtain ⟨wa, hwa⟩ : ∃ wa, wa = w.alloc (.cells #[.string x0, .int .i64 x1, .string x2, .int .i64 x3, .int .i64 x4, .int .i64 x5, .int .i64 x6, .int .u32 x7, .int .i64 x8] 53) := ⟨_, rfl⟩
  have ba : Below w.heap.size w wa := by rw [hwa]; exact (Below.refl _ _).alloc (Nat.le_refl _) _
  have ga : wa.heap[w.heap.size]? = some (.cells #[.string x0, .int .i64 x1, .string x2, .int .i64 x3, .int .i64 x4, .int .i64 x5, .int .i64 x6, .int .u32 x7, .int .i64 x8] 53 (0, 0)) := by rw [hwa]; exact heap_alloc_new _ _
  have HPA := Lib.hid (hP wa ba)
  have HBA := Lib.hid ba
  have HGA := Lib.hid ga
  have HWA := Lib.hid hwa
  obtain ⟨zp, hzp⟩ : ∃ zp, zp = pf x2 := ⟨_, rfl⟩
  obtain ⟨b0, hb0⟩ : ∃ b, b = keyB x0 := ⟨_, rfl⟩
  have HK := Lib.hid (show ∀ W, Calls Tryz.prog 83 #[.string x0] W fun e w' => e = .returned (.bool b0) ∧ w' = W from fun W => by rw [hb0]; exact iskey_any x0 (by omega) W)
  obtain ⟨b1, hb1⟩ : ∃ b, b = withinB x1 0 1099511627775 := ⟨_, rfl⟩
  have HW1 := Lib.hid (show ∀ W, Calls Tryz.prog 34 #[.int .i64 x1, .int .i64 0, .int .i64 1099511627775] W fun e w' => e = .returned (.bool b1) ∧ w' = W from fun W => by rw [hb1]; exact within_any _ _ _ W)
  obtain ⟨b2, hb2⟩ : ∃ b, b = (zp == 0) := ⟨_, rfl⟩
  obtain ⟨b3, hb3⟩ : ∃ b, b = (decide (0 ≤ x3)) := ⟨_, rfl⟩
  obtain ⟨b4, hb4⟩ : ∃ b, b = (decide (x3 ≤ x4)) := ⟨_, rfl⟩
  obtain ⟨b5, hb5⟩ : ∃ b, b = (decide (x4 < 1099511627776)) := ⟨_, rfl⟩
  obtain ⟨b6, hb6⟩ : ∃ b, b = withinB x5 1 2048 := ⟨_, rfl⟩
  have HW6 := Lib.hid (show ∀ W, Calls Tryz.prog 34 #[.int .i64 x5, .int .i64 1, .int .i64 2048] W fun e w' => e = .returned (.bool b6) ∧ w' = W from fun W => by rw [hb6]; exact within_any _ _ _ W)
  obtain ⟨b7, hb7⟩ : ∃ b, b = withinB x6 1 262144 := ⟨_, rfl⟩
  have HW7 := Lib.hid (show ∀ W, Calls Tryz.prog 34 #[.int .i64 x6, .int .i64 1, .int .i64 262144] W fun e w' => e = .returned (.bool b7) ∧ w' = W from fun W => by rw [hb7]; exact within_any _ _ _ W)
  obtain ⟨b8, hb8⟩ : ∃ b, b = withinB x8 0 1099511627775 := ⟨_, rfl⟩
  have HW8 := Lib.hid (show ∀ W, Calls Tryz.prog 34 #[.int .i64 x8, .int .i64 0, .int .i64 1099511627775] W fun e w' => e = .returned (.bool b8) ∧ w' = W from fun W => by rw [hb8]; exact within_any _ _ _ W)
  have HV := Lib.hid (show entB ⟨x0, x1, x2, x3, x4, x5, x6, x7, x8⟩ (pf x2 == 0) = (b0 && (b1 && (b2 && (b3 && (b4 && (b5 && (b6 && (b7 && b8)))))))) from by rw [hb0, hb1, hb2, hb3, hb4, hb5, hb6, hb7, hb8, hzp]; rfl)
  rw [← hzp] at HPA
  have g2 := hb2.symm
  have g3 := hb3.symm
  have g4 := hb4.symm
  have g5 := hb5.symm
  have G2 := Lib.hid g2
  have G3 := Lib.hid g3
  have G4 := Lib.hid g4
  have G5 := Lib.hid g5
  clear hwa ba ga hzp hb0 hb1 hb2 hb3 hb4 hb5 hb6 hb7 hb8 h0 hP g2 g3 g4 g5
  go_enter Tryz.func36, Tryz.ntmps36
  have a2 : wa.cell? ⟨w.heap.size, 2, none⟩ = some (.string x2) := cell_blk HGA.out rfl
  go_wp2_with fail
  rw [← HWA.out]
  refine HPA.out.mono ?_
  rintro e w1 ⟨⟨ap, np, cp, rfl⟩, hb⟩
  have HB := Lib.hid (HBA.out.trans (hb.mono HBA.out.size))
  have hg1 := (hb.block w.heap.size (Array.getElem?_eq_some_iff.1 HGA.out).1).trans HGA.out
  have n0 : w1.cell? ⟨w.heap.size, 0, none⟩ = some (.string x0) := cell_blk hg1 rfl
  have n1 : w1.cell? ⟨w.heap.size, 1, none⟩ = some (.int .i64 x1) := cell_blk hg1 rfl
  have n2 : w1.cell? ⟨w.heap.size, 2, none⟩ = some (.string x2) := cell_blk hg1 rfl
  have n3 : w1.cell? ⟨w.heap.size, 3, none⟩ = some (.int .i64 x3) := cell_blk hg1 rfl
  have n4 : w1.cell? ⟨w.heap.size, 4, none⟩ = some (.int .i64 x4) := cell_blk hg1 rfl
  have n5 : w1.cell? ⟨w.heap.size, 5, none⟩ = some (.int .i64 x5) := cell_blk hg1 rfl
  have n6 : w1.cell? ⟨w.heap.size, 6, none⟩ = some (.int .i64 x6) := cell_blk hg1 rfl
  have n7 : w1.cell? ⟨w.heap.size, 7, none⟩ = some (.int .u32 x7) := cell_blk hg1 rfl
  have n8 : w1.cell? ⟨w.heap.size, 8, none⟩ = some (.int .i64 x8) := cell_blk hg1 rfl
  clear hb hg1 a2
  go_wp2_with fail
  refine (HK.out _).mono ?_
  rintro e w2 ⟨rfl, rfl⟩
  cases b0 with
  | false =>
    go_wp2_with fail
    go_ret
    exact ⟨by rw [HV.out]; rfl, HB.out⟩
  | true =>
    go_wp2_with fail
    refine (HW1.out _).mono ?_
    rintro e w2 ⟨rfl, rfl⟩
    cases b1 with
    | false =>
      go_wp2_with fail
      go_ret
      exact ⟨by rw [HV.out]; rfl, HB.out⟩
    | true =>
      cases b2 with
      | false =>
        have g2 := G2.out
        go_wp2_with fail
        go_ret
        exact ⟨by rw [HV.out]; rfl, HB.out⟩
      | true =>
        have g2 := G2.out
        cases b3 with
        | false =>
          have g3 := G3.out
          go_wp2_with fail
          go_ret
          exact ⟨by rw [HV.out]; rfl, HB.out⟩
        | true =>
          have g3 := G3.out
          cases b4 with
          | false =>
            have g4 := G4.out
            go_wp2_with fail
            go_ret
            exact ⟨by rw [HV.out]; rfl, HB.out⟩
          | true =>
            have g4 := G4.out
            cases b5 with
            | false =>
              have g5 := G5.out
              go_wp2_with fail
              go_ret
              exact ⟨by rw [HV.out]; rfl, HB.out⟩
            | true =>
              have g5 := G5.out
              go_wp2_with fail
              refine (HW6.out _).mono ?_
              rintro e w2 ⟨rfl, rfl⟩
              cases b6 with
              | false =>
                go_wp2_with fail
                go_ret
                exact ⟨by rw [HV.out]; rfl, HB.out⟩
              | true =>
                go_wp2_with fail
                refine (HW7.out _).mono ?_
                rintro e w2 ⟨rfl, rfl⟩
                cases b7 with
                | false =>
                  go_wp2_with fail
                  go_ret
                  exact ⟨by rw [HV.out]; rfl, HB.out⟩
                | true =>
                  go_wp2_with fail
                  refine (HW8.out _).mono ?_
                  rintro e w2 ⟨rfl, rfl⟩
                  cases b8 with
                  | false =>
                    go_wp2_with fail
                    go_ret
                    exact ⟨by rw [HV.out]; rfl, HB.out⟩
                  | true =>
                    go_wp2_with fail
                    go_ret
                    exact ⟨by rw [HV.out]; rfl, HB.out⟩

/-- does an entry stay? -/
def stayB (pf : ByteArray → Int) (cut : Int) (x : EntV) : Bool := entB x (pf x.part == 0) && decide (cut ≤ x.win)
set_option maxRecDepth 100000 in
set_option maxHeartbeats 4000000 in
theorem stays_any {w : World} (pf : ByteArray → Int) {mb : Nat} {cut : Int} (hmb : mb < w.heap.size) (hc : w.cell? ⟨mb, 1, none⟩ = some (.int .i64 cut)) (x0 : ByteArray) (x1 : Int) (x2 : ByteArray) (x3 x4 x5 x6 x7 x8 : Int) (h0 : x0.size ≤ 140737488355328) (hP : ∀ (W : World), Below w.heap.size w W → Calls Tryz.prog 82 #[.string x2] W fun e w' => ParIs (pf x2) e ∧ Below W.heap.size W w') :
    Calls Tryz.prog 35 #[.agg #[.string x0, .int .i64 x1, .string x2, .int .i64 x3, .int .i64 x4, .int .i64 x5, .int .i64 x6, .int .u32 x7, .int .i64 x8], .pointer (some ⟨mb, 0, none⟩)] w fun e w' => e = .returned (.bool (stayB pf cut ⟨x0, x1, x2, x3, x4, x5, x6, x7, x8⟩)) ∧ Below w.heap.size w w' := by
  obtain ⟨wa, hwa⟩ : ∃ wa, wa = w.alloc (.cells #[.string x0, .int .i64 x1, .string x2, .int .i64 x3, .int .i64 x4, .int .i64 x5, .int .i64 x6, .int .u32 x7, .int .i64 x8] 53) := ⟨_, rfl⟩
  have ba : Below w.heap.size w wa := by rw [hwa]; exact (Below.refl _ _).alloc (Nat.le_refl _) _
  have ga : wa.heap[w.heap.size]? = some (.cells #[.string x0, .int .i64 x1, .string x2, .int .i64 x3, .int .i64 x4, .int .i64 x5, .int .i64 x6, .int .u32 x7, .int .i64 x8] 53 (0, 0)) := by rw [hwa]; exact heap_alloc_new _ _
  obtain ⟨b0, hb0⟩ : ∃ b, b = entB ⟨x0, x1, x2, x3, x4, x5, x6, x7, x8⟩ (pf x2 == 0) := ⟨_, rfl⟩
  obtain ⟨b1, hb1⟩ : ∃ b, b = decide (cut ≤ x1) := ⟨_, rfl⟩
  have HRE := Lib.hid (rightEntry_any (w := wa) pf x0 x1 x2 x3 x4 x5 x6 x7 x8 h0 (fun W hB => hP W (ba.trans (hB.mono ba.size))))
  rw [← hb0] at HRE
  have HV := Lib.hid (show stayB pf cut ⟨x0, x1, x2, x3, x4, x5, x6, x7, x8⟩ = (b0 && b1) from by rw [hb0, hb1]; rfl)
  have HBA := Lib.hid ba
  have HGA := Lib.hid ga
  have HWA := Lib.hid hwa
  have HMB := Lib.hid hmb
  have HC := Lib.hid hc
  have G1 := Lib.hid hb1.symm
  clear hwa ba ga hb0 hb1 h0 hP hmb hc
  go_enter Tryz.func35, Tryz.ntmps35
  go_wp2_with fail
  rw [← HWA.out]
  refine HRE.out.mono ?_
  rintro e w1 ⟨rfl, hb⟩
  have HB := Lib.hid (HBA.out.trans (hb.mono HBA.out.size))
  have hg1 := (hb.block w.heap.size (Array.getElem?_eq_some_iff.1 HGA.out).1).trans HGA.out
  have n1 : w1.cell? ⟨w.heap.size, 1, none⟩ = some (.int .i64 x1) := cell_blk hg1 rfl
  have q1 : w1.cell? ⟨mb, 1, none⟩ = some (.int .i64 cut) := (HB.out.cell (p := ⟨mb, 1, none⟩) HMB.out).trans HC.out
  clear hb hg1
  cases b0 with
  | false =>
    go_wp2_with fail
    go_ret
    exact ⟨by rw [HV.out]; rfl, HB.out⟩
  | true =>
    cases b1 with
    | false =>
      have g1 := G1.out
      go_wp2_with fail
      go_ret
      exact ⟨by rw [HV.out]; rfl, HB.out⟩
    | true =>
      have g1 := G1.out
      go_wp2_with fail
      go_ret
      exact ⟨by rw [HV.out]; rfl, HB.out⟩

end Go.Proofs.YtbdgcfimbblncaaGreatDoor
end PkMR7_2
section PkMR7_3
/- Manifests: which are right: package manifest's Right, walked. Written by genmfp.py. -/
namespace Go.Proofs.YtbdgcfimbblncaaGreatDoor
open Go.RowKit LabPlain
set_option linter.unusedVariables false

/-- what makes a manifest right -/
def IsMan (pf : ByteArray → Int) (s d hz : Int) (en : Nat) (le : List EntV) (mn : Nat) (lm : List (Int × Int)) (on : Nat) (lo : List (Int × Int × Int)) : Prop := ((withinB s 0 1099511627775 && (withinB d 0 1099511627775 && withinB hz 0 1099511627775)) = true ∧ en ≤ 256 ∧ RisOk (stayB pf d) (fun a b => cmpS a.key b.key) EntS.z le en ∧ RisOk isMarkB (fun a b => cmp3 a.1 b.1) MarkS.z lm mn ∧ RisOk isOwnB (fun a b => cmp3 a.1 b.1) OwnS.z lo on)
def ManIs (pf : ByteArray → Int) (s d hz : Int) (en : Nat) (le : List EntV) (mn : Nat) (lm : List (Int × Int)) (on : Nat) (lo : List (Int × Int × Int)) (e : Ending) : Prop := ∃ b : Bool, e = .returned (.bool b) ∧ (b = true ↔ IsMan pf s d hz en le mn lm on lo)
theorem ManIs.no {pf : ByteArray → Int} {s d hz : Int} {en : Nat} {le : List EntV} {mn : Nat} {lm : List (Int × Int)} {on : Nat} {lo : List (Int × Int × Int)} (h : ¬ IsMan pf s d hz en le mn lm on lo) : ManIs pf s d hz en le mn lm on lo (.returned (.bool false)) := ⟨false, rfl, ⟨fun e => (by cases e), fun g => absurd g h⟩⟩
theorem ManIs.yes {pf : ByteArray → Int} {s d hz : Int} {en : Nat} {le : List EntV} {mn : Nat} {lm : List (Int × Int)} {on : Nat} {lo : List (Int × Int × Int)} (h : IsMan pf s d hz en le mn lm on lo) : ManIs pf s d hz en le mn lm on lo (.returned (.bool true)) := ⟨true, rfl, ⟨fun _ => h, fun _ => rfl⟩⟩
set_option maxRecDepth 100000 in
set_option maxHeartbeats 4000000 in
theorem mright_any {w : World} (pf : ByteArray → Int)  {s d hz : Int} {ea ma oa : Option Addr} {en ec mn mc on oc : Nat} {le : List EntV} {lm : List (Int × Int)} {lo : List (Int × Int × Int)} (hE : VecAt EntS w ea en ec le) (hM : VecAt MarkS w ma mn mc lm) (hO : VecAt OwnS w oa on oc lo) (hP : ∀ (W : World) (x : EntV), x ∈ le → Below w.heap.size w W → Calls Tryz.prog 82 #[.string x.part] W fun e w' => ParIs (pf x.part) e ∧ Below W.heap.size W w') :
    Calls Tryz.prog 11 #[.agg #[.int .i64 s, .int .i64 d, .int .i64 hz, .slice ea en ec, .slice ma mn mc, .slice oa on oc]] w fun e w' => ManIs pf s d hz en le mn lm on lo e ∧ Below w.heap.size w w' := by
  obtain ⟨wa, hwa⟩ : ∃ wa, wa = w.alloc (.cells #[.int .i64 s, .int .i64 d, .int .i64 hz, .slice ea en ec, .slice ma mn mc, .slice oa on oc] 26) := ⟨_, rfl⟩
  have ba : Below w.heap.size w wa := by rw [hwa]; exact (Below.refl _ _).alloc (Nat.le_refl _) _
  have ga : wa.heap[w.heap.size]? = some (.cells #[.int .i64 s, .int .i64 d, .int .i64 hz, .slice ea en ec, .slice ma mn mc, .slice oa on oc] 26 (0, 0)) := by rw [hwa]; exact heap_alloc_new _ _
  have hla : w.heap.size < wa.heap.size := (Array.getElem?_eq_some_iff.1 ga).1
  obtain ⟨b0, hb0⟩ : ∃ b, b = withinB s 0 1099511627775 := ⟨_, rfl⟩
  obtain ⟨b1, hb1⟩ : ∃ b, b = withinB d 0 1099511627775 := ⟨_, rfl⟩
  obtain ⟨b2, hb2⟩ : ∃ b, b = withinB hz 0 1099511627775 := ⟨_, rfl⟩
  have HW0 := Lib.hid (show ∀ W, Calls Tryz.prog 34 #[.int .i64 s, .int .i64 0, .int .i64 1099511627775] W fun e w' => e = .returned (.bool b0) ∧ w' = W from fun W => by rw [hb0]; exact within_any _ _ _ W)
  have HW1 := Lib.hid (show ∀ W, Calls Tryz.prog 34 #[.int .i64 d, .int .i64 0, .int .i64 1099511627775] W fun e w' => e = .returned (.bool b1) ∧ w' = W from fun W => by rw [hb1]; exact within_any _ _ _ W)
  have HW2 := Lib.hid (show ∀ W, Calls Tryz.prog 34 #[.int .i64 hz, .int .i64 0, .int .i64 1099511627775] W fun e w' => e = .returned (.bool b2) ∧ w' = W from fun W => by rw [hb2]; exact within_any _ _ _ W)
  have HRS := Lib.hid (rising_anyE (w := wa) (hE.kept ba) (mb := w.heap.size) (stayB pf d) (fun W z hz9 hB hok => stays_any (w := W) pf (Nat.lt_of_lt_of_le hla hB.size) ((hB.cell (p := ⟨w.heap.size, 1, none⟩) hla).trans (cell_blk ga rfl)) z.key z.win z.part z.fst z.lst z.rows z.size z.sum z.born hok.1 (fun W2 h2 => hP W2 z hz9 ((ba.trans (hB.mono ba.size)).trans (h2.mono (ba.trans (hB.mono ba.size)).size)))))
  have HV := Lib.hid (show IsMan pf s d hz en le mn lm on lo ↔ ((b0 && (b1 && b2)) = true ∧ en ≤ 256 ∧ RisOk (stayB pf d) (fun a b => cmpS a.key b.key) EntS.z le en ∧ RisOk isMarkB (fun a b => cmp3 a.1 b.1) MarkS.z lm mn ∧ RisOk isOwnB (fun a b => cmp3 a.1 b.1) OwnS.z lo on) from by rw [hb0, hb1, hb2]; exact Iff.rfl)
  have HBA := Lib.hid ba
  have HGA := Lib.hid ga
  have HWA := Lib.hid hwa
  have HM := Lib.hid hM
  have HO := Lib.hid hO
  have a0 : wa.cell? ⟨w.heap.size, 0, none⟩ = some (.int .i64 s) := cell_blk ga rfl
  have a1 : wa.cell? ⟨w.heap.size, 1, none⟩ = some (.int .i64 d) := cell_blk ga rfl
  have a2 : wa.cell? ⟨w.heap.size, 2, none⟩ = some (.int .i64 hz) := cell_blk ga rfl
  have a3 : wa.cell? ⟨w.heap.size, 3, none⟩ = some (.slice ea en ec) := cell_blk ga rfl
  clear hwa ba ga hla hb0 hb1 hb2 hE hM hO hP
  go_enter Tryz.func11, Tryz.ntmps11
  go_wp2_with fail
  rw [← HWA.out]
  refine (HW0.out _).mono ?_
  rintro e w1 ⟨rfl, rfl⟩
  cases b0 with
  | false =>
    go_wp2_with fail
    go_ret
    exact ⟨ManIs.no (fun h => by have := (HV.out.1 h).1; cases this), HBA.out⟩
  | true =>
  go_wp2_with fail
  refine (HW1.out _).mono ?_
  rintro e w1 ⟨rfl, rfl⟩
  cases b1 with
  | false =>
    go_wp2_with fail
    go_ret
    exact ⟨ManIs.no (fun h => by have := (HV.out.1 h).1; cases this), HBA.out⟩
  | true =>
  go_wp2_with fail
  refine (HW2.out _).mono ?_
  rintro e w1 ⟨rfl, rfl⟩
  cases b2 with
  | false =>
    go_wp2_with fail
    go_ret
    exact ⟨ManIs.no (fun h => by have := (HV.out.1 h).1; cases this), HBA.out⟩
  | true =>
  by_cases hen : en ≤ 256
  · have heni : (en : Int) ≤ 256 := by omega
    have HEN := Lib.hid hen
    clear hen
    go_wp2_with fail
    refine HRS.out.mono ?_
    rintro e w2 ⟨⟨r1, rfl, hr1⟩, hb2⟩
    have HR1 := Lib.hid hr1
    have HB2 := Lib.hid (HBA.out.trans (hb2.mono HBA.out.size))
    have HG2 := Lib.hid ((hb2.block w.heap.size (Array.getElem?_eq_some_iff.1 HGA.out).1).trans HGA.out)
    have n4 : w2.cell? ⟨w.heap.size, 4, none⟩ = some (.slice ma mn mc) := cell_blk HG2.out rfl
    have HRM := Lib.hid (rising_anyM (w := w2) (HM.out.kept HB2.out) (mb := 0) isMarkB (fun W z _ _ _ => rightM_any z.1 z.2 W))
    clear hb2 hr1 a0 a1 a2 a3
    cases r1 with
    | false =>
      go_wp2_with fail
      go_ret
      exact ⟨ManIs.no (fun h => by have := HR1.out.2 (HV.out.1 h).2.2.1; cases this), HB2.out⟩
    | true =>
    go_wp2_with fail
    refine HRM.out.mono ?_
    rintro e w3 ⟨⟨r2, rfl, hr2⟩, hb3⟩
    have HR2 := Lib.hid hr2
    have HB3 := Lib.hid (HB2.out.trans (hb3.mono HB2.out.size))
    have HG3 := Lib.hid ((hb3.block w.heap.size (Array.getElem?_eq_some_iff.1 HG2.out).1).trans HG2.out)
    have n5 : w3.cell? ⟨w.heap.size, 5, none⟩ = some (.slice oa on oc) := cell_blk HG3.out rfl
    have HRO := Lib.hid (rising_anyO (w := w3) (HO.out.kept HB3.out) (mb := 0) isOwnB (fun W z _ _ _ => rightO_any z.1 z.2.1 z.2.2 W))
    clear hb3 hr2 n4
    cases r2 with
    | false =>
      go_wp2_with fail
      go_ret
      exact ⟨ManIs.no (fun h => by have := HR2.out.2 (HV.out.1 h).2.2.2.1; cases this), HB3.out⟩
    | true =>
    go_wp2_with fail
    refine HRO.out.mono ?_
    rintro e w4 ⟨⟨r3, rfl, hr3⟩, hb4⟩
    have HR3 := Lib.hid hr3
    have HB4 := Lib.hid (HB3.out.trans (hb4.mono HB3.out.size))
    clear hb4 hr3 n5
    cases r3 with
    | false =>
      go_wp2_with fail
      go_ret
      exact ⟨ManIs.no (fun h => by have := HR3.out.2 (HV.out.1 h).2.2.2.2; cases this), HB4.out⟩
    | true =>
      have HY := Lib.hid (HV.out.2 ⟨rfl, HEN.out, HR1.out.1 (by simp), HR2.out.1 (by simp), HR3.out.1 (by simp)⟩)
      go_wp2_with fail
      go_ret
      exact ⟨ManIs.yes HY.out, HB4.out⟩
  · have heni : (256 : Int) < (en : Int) := by omega
    have HN := Lib.hid (show ¬ IsMan pf s d hz en le mn lm on lo from fun h => hen (HV.out.1 h).2.1)
    clear hen
    go_wp2_with fail
    go_ret
    exact ⟨ManIs.no HN.out, HBA.out⟩
end Go.Proofs.YtbdgcfimbblncaaGreatDoor
end PkMR7_3
section PkMR7_4
/- Package label's isLetter and isName, walked. -/
namespace Go.Proofs.YtbdgcfimbblncaaGreatDoor
open Go.RowKit LabPlain
set_option linter.unusedVariables false

set_option maxHeartbeats 400000 in
theorem isletter_any (c : Nat) (hc : c < 256) (w : World) :
    Calls Tryz.prog 178 #[.int .u8 (c : Int)] w fun e w' => e = .returned (.bool (isL c)) ∧ w = w' := by
  by_cases h1 : 97 ≤ c
  · have h1i : (97 : Int) ≤ (c : Int) := by omega
    cases h2 : decide (c ≤ 122) with
    | true =>
      have hR := Lib.hid (show isL c = true by unfold isL; rw [h2, decide_eq_true h1]; rfl)
      have h2i : decide ((c : Int) ≤ 122) = true := by rw [decide_eq_true_eq] at h2 ⊢; omega
      clear h1 h2
      go_enter Tryz.func178, Tryz.ntmps178
      go_wp2_with fail
      go_ret
      rw [hR.out]; exact ⟨rfl, rfl⟩
    | false =>
      have hR := Lib.hid (show isL c = false by unfold isL; rw [h2, Bool.and_false])
      have h2i : decide ((c : Int) ≤ 122) = false := by rw [decide_eq_false_iff_not] at h2 ⊢; omega
      clear h1 h2
      go_enter Tryz.func178, Tryz.ntmps178
      go_wp2_with fail
      go_ret
      rw [hR.out]; exact ⟨rfl, rfl⟩
  · have hR := Lib.hid (show isL c = false by simp [isL, h1])
    have h1i : (c : Int) < 97 := by omega
    clear h1
    go_enter Tryz.func178, Tryz.ntmps178
    go_wp2_with fail
    go_ret
    rw [hR.out]; exact ⟨rfl, rfl⟩

set_option maxRecDepth 100000 in
set_option maxHeartbeats 1000000 in
theorem isname_any (s : ByteArray) (hs : s.size ≤ 9223372036854775807) (w : World) :
    Calls Tryz.prog 158 #[.string s] w fun e w' => e = .returned (.bool (isNm s)) ∧ w = w' := by
  by_cases h1 : s.size < 1
  · have hR := Lib.hid (show isNm s = false by unfold isNm; simp [show ¬ 1 ≤ s.size by omega])
    have h1i : (s.size : Int) < 1 := by omega
    clear h1
    go_enter Tryz.func158, Tryz.ntmps158
    go_wp2_with fail
    go_ret
    rw [hR.out]; exact ⟨rfl, rfl⟩
  · by_cases h8 : 8 < s.size
    · have hR := Lib.hid (show isNm s = false by unfold isNm; simp [show ¬ s.size ≤ 8 by omega])
      have h1i : (1 : Int) ≤ (s.size : Int) := by omega
      have h8i : (8 : Int) < (s.size : Int) := by omega
      clear h1 h8
      go_enter Tryz.func158, Tryz.ntmps158
      go_wp2_with fail
      go_ret
      rw [hR.out]; exact ⟨rfl, rfl⟩
    · have h1i : (1 : Int) ≤ (s.size : Int) := by omega
      have h8i : (s.size : Int) ≤ 8 := by omega
      have h0 : 0 < s.size := by omega
      obtain ⟨c0, hc0⟩ : ∃ c0, c0 = at_ s 0 := ⟨_, rfl⟩
      have hs0 : (s[0]'h0).toNat = c0 := by rw [hc0, at_get s 0 h0]
      have hc256 : c0 < 256 := by rw [hc0]; exact at_lt s 0
      have HC0 := Lib.hid hc0
      have h18 : decide (1 ≤ s.size) = true ∧ decide (s.size ≤ 8) = true := ⟨decide_eq_true (by omega), decide_eq_true (by omega)⟩
      have H18 := Lib.hid h18
      clear h1 h8 hc0 h18
      cases hl : isL c0 with
      | false =>
        have hR := Lib.hid (show isNm s = false by unfold isNm; rw [← HC0.out, hl]; simp)
        have hlt := isletter_any c0 hc256 w
        rw [hl] at hlt
        have HL := Lib.hid hlt
        clear hlt hl
        go_enter Tryz.func158, Tryz.ntmps158
        go_wp2_with fail
        refine HL.out.mono ?_
        rintro e w1 ⟨rfl, rfl⟩
        go_wp2_with fail
        go_ret
        rw [hR.out]; exact ⟨rfl, rfl⟩
      | true =>
        have hR := Lib.hid (show isNm s = allC s s.size by unfold isNm; rw [← HC0.out, hl, H18.out.1, H18.out.2]; simp)
        have hlt := isletter_any c0 hc256 w
        rw [hl] at hlt
        have HL := Lib.hid hlt
        clear hlt hl
        go_enter Tryz.func158, Tryz.ntmps158
        go_wp2_with fail
        refine HL.out.mono ?_
        rintro e w1 ⟨rfl, rfl⟩
        go_wp2_with fail
        clear hs0
        go_loop [21] (fun s21 => ∃ k : Nat, k ≤ s.size ∧ s21 = .int .i64 (k : Int) ∧ Hid (allC s k = true)) (fun s21 => s.size - (intOf s21).toNat)
        case atStart => exact ⟨0, by omega, rfl, Lib.hid rfl⟩
        case round =>
          obtain ⟨k, hk, rfl, HA⟩ := hrel
          by_cases hks : k < s.size
          · obtain ⟨c, hc⟩ : ∃ c, c = at_ s k := ⟨_, rfl⟩
            have hsk : (s[k]'hks).toNat = c := by rw [hc, at_get s k hks]
            have hcl : c < 256 := by rw [hc]; exact at_lt s k
            have HCK := Lib.hid hc
            clear hc
            have hlt := isletter_any c hcl w
            cases hok : okC c with
            | true =>
              have HA2 := Lib.hid (show allC s (k + 1) = true by rw [allC, HA.out, ← HCK.out, hok]; rfl)
              cases hl : isL c with
              | true =>
                rw [hl] at hlt
                have HL := Lib.hid hlt
                clear hlt hl hok
                go_wp2_with fail
                refine HL.out.mono ?_
                rintro e w1 ⟨rfl, rfl⟩
                go_wp2_with fail
                go_round
                case rel => exact ⟨k + 1, by omega, by go_num, HA2⟩
                case measure => simp [intOf]; omega
              | false =>
                rw [hl] at hlt
                have HL := Lib.hid hlt
                have hcc : c = 95 ∨ (48 ≤ c ∧ c ≤ 57) := by
                  unfold okC at hok
                  rw [hl] at hok
                  simpa using hok
                clear hlt hl hok
                by_cases h95 : c = 95
                · have h95i : ((c : Int) != 95) = false := by rw [bne_eq_false_iff_eq]; omega
                  clear hcc h95
                  go_wp2_with fail
                  refine HL.out.mono ?_
                  rintro e w1 ⟨rfl, rfl⟩
                  go_wp2_with fail
                  go_round
                  case rel => exact ⟨k + 1, by omega, by go_num, HA2⟩
                  case measure => simp [intOf]; omega
                · have h95i : ((c : Int) != 95) = true := by rw [bne_iff_ne]; omega
                  have h48 : (48 : Int) ≤ (c : Int) := by omega
                  have h57 : (c : Int) ≤ 57 := by omega
                  clear hcc h95
                  go_wp2_with fail
                  refine HL.out.mono ?_
                  rintro e w1 ⟨rfl, rfl⟩
                  go_wp2_with fail
                  go_round
                  case rel => exact ⟨k + 1, by omega, by go_num, HA2⟩
                  case measure => simp [intOf]; omega
            | false =>
              have hl : isL c = false := by
                unfold okC at hok
                cases hl : isL c with
                | false => rfl
                | true => rw [hl] at hok; simp at hok
              rw [hl] at hlt
              have HL := Lib.hid hlt
              have hcc : c ≠ 95 ∧ (c < 48 ∨ 57 < c) := by
                unfold okC at hok
                rw [hl] at hok
                simp at hok
                omega
              have HF := Lib.hid (show isNm s = false by
                rw [hR.out]
                have := allC_no (s := s) (k := k) (by rw [← HCK.out]; exact hok) (s.size - (k + 1))
                rw [show k + 1 + (s.size - (k + 1)) = s.size from by omega] at this
                exact this)
              have h95i : ((c : Int) != 95) = true := by rw [bne_iff_ne]; omega
              clear hlt hl hok
              rcases hcc with ⟨h95, h48 | h57⟩
              · have h48i : (c : Int) < 48 := by omega
                clear h95 h48
                go_wp2_with fail
                refine HL.out.mono ?_
                rintro e w1 ⟨rfl, rfl⟩
                go_wp2_with fail
                go_ret
                rw [HF.out]; exact ⟨rfl, rfl⟩
              · have h57i : (57 : Int) < (c : Int) := by omega
                have h48i : (48 : Int) ≤ (c : Int) := by omega
                clear h95 h57
                go_wp2_with fail
                refine HL.out.mono ?_
                rintro e w1 ⟨rfl, rfl⟩
                go_wp2_with fail
                go_ret
                rw [HF.out]; exact ⟨rfl, rfl⟩
          · obtain rfl : k = s.size := by omega
            have HT := Lib.hid (show isNm s = true by rw [hR.out]; exact HA.out)
            clear hks
            go_wp2_with fail
            go_ret
            rw [HT.out]; exact ⟨rfl, rfl⟩
end Go.Proofs.YtbdgcfimbblncaaGreatDoor
end PkMR7_4
section PkMR7_5
/- A slice of labels, as a walk is told of it. -/
namespace Go.Proofs.YtbdgcfimbblncaaGreatDoor
open Go.RowKit LabPlain
set_option linter.unusedVariables false

structure LabsAt (w : World) (a : Option Addr) (n c : Nat) (l : List Lab) : Prop where
  len : l.length = n
  cap : n ≤ c
  capm : c ≤ 9223372036854775807
  nl : a = none → c = 0
  size : ∀ x ∈ l, x.1.size ≤ 140737488355328 ∧ x.2.size ≤ 140737488355328
  cells : 0 < n → ∃ b off, a = some ⟨b, off, none⟩ ∧ b < w.heap.size ∧ ∀ i, i < n → w.cell? ⟨b, off + i * 2, none⟩ = some (.string (l.getD i lab0).1) ∧ w.cell? ⟨b, off + i * 2 + 1, none⟩ = some (.string (l.getD i lab0).2)
theorem LabsAt.keep {w w' : World} {a : Option Addr} {n c : Nat} {l : List Lab} (h : LabsAt w a n c l) {B : Nat} (hb : Below B w w') (hB : w.heap.size ≤ B) : LabsAt w' a n c l :=
  ⟨h.len, h.cap, h.capm, h.nl, h.size, fun hn => by
    obtain ⟨b, off, ha, hlt, hc⟩ := h.cells hn
    exact ⟨b, off, ha, Nat.lt_of_lt_of_le hlt hb.size, fun i hi => ⟨(hb.cell (p := ⟨b, off + i * 2, none⟩) (Nat.lt_of_lt_of_le hlt hB)).trans (hc i hi).1, (hb.cell (p := ⟨b, off + i * 2 + 1, none⟩) (Nat.lt_of_lt_of_le hlt hB)).trans (hc i hi).2⟩⟩⟩
theorem LabsAt.kept {w w' : World} {a : Option Addr} {n c : Nat} {l : List Lab} (h : LabsAt w a n c l) (hb : Below w.heap.size w w') : LabsAt w' a n c l := h.keep hb (Nat.le_refl _)
theorem LabsAt.empty (w : World) (a : Option Addr) (c : Nat) (hc : c ≤ 9223372036854775807) (ha : a = none → c = 0) : LabsAt w a 0 c [] :=
  ⟨rfl, Nat.zero_le _, hc, ha, (fun x hx => by cases hx), fun h => absurd h (Nat.lt_irrefl 0)⟩
theorem lab_mem {l : List Lab} {i : Nat} (h : i < l.length) : l.getD i lab0 ∈ l := by
  have : l.getD i lab0 = l[i] := by simp [h]
  rw [this]; exact List.getElem_mem h
end Go.Proofs.YtbdgcfimbblncaaGreatDoor
end PkMR7_5
section PkMR7_6
/- Package label's Right, walked. -/
namespace Go.Proofs.YtbdgcfimbblncaaGreatDoor
open Go.RowKit LabPlain
set_option linter.unusedVariables false

theorem below_drewN {B : Nat} {a w : World} (h : Below B a w) (q : Nat) : Below B a (w.drewN q) := ⟨h.os, h.tape, h.output, h.size, h.block⟩

set_option maxRecDepth 100000 in
set_option maxHeartbeats 1000000 in
theorem right_any {w : World} {a : Option Addr} {n c : Nat} {l : List Lab} (h : LabsAt w a n c l) :
    Calls Tryz.prog 138 #[.slice a n c] w fun e w' => e = .returned (.bool (isSet l)) ∧ Below w.heap.size w w' := by
  have hlen := h.len
  have hcap := h.cap
  have hcm := h.capm
  have HH := Lib.hid h
  have HL := Lib.hid hlen
  clear h hlen
  by_cases h4 : 4 < n
  · have HR := Lib.hid (show isSet l = false by unfold isSet; rw [decide_eq_false (by rw [HL.out]; omega)]; rfl)
    have h4i : (4 : Int) < (n : Int) := by omega
    clear h4
    go_enter Tryz.func138, Tryz.ntmps138
    go_wp2_with fail
    go_ret
    rw [HR.out]; exact ⟨rfl, Below.refl _ _⟩
  · have h4i : (n : Int) ≤ 4 := by omega
    have HR := Lib.hid (show isSet l = upTo l n by unfold isSet; rw [decide_eq_true (by rw [HL.out]; omega), HL.out]; rfl)
    clear h4
    go_enter Tryz.func138, Tryz.ntmps138
    go_wp2_with fail
    go_loopw [10] (fun s10 wr => ∃ k : Nat, k ≤ n ∧ s10 = .int .i64 (k : Int) ∧ Hid (upTo l k = true) ∧ Hid (Below w.heap.size w wr)) (fun s10 _ => n - (intOf s10).toNat)
    case atStart => exact ⟨0, by omega, rfl, Lib.hid rfl, Lib.hid (Below.refl _ _)⟩
    case round =>
      obtain ⟨k, hk, rfl, HU, HB⟩ := hrel
      rename World => wr
      by_cases hkn : k < n
      · obtain ⟨b, off, rfl, hlt, hcell⟩ := (HH.out.kept HB.out).cells (by omega)
        obtain ⟨h1, h2⟩ := hcell k hkn
        have hsz := HH.out.size _ (lab_mem (l := l) (i := k) (by have := HL.out; omega))
        obtain ⟨x1, hx1⟩ : ∃ x, x = (l.getD k lab0).1 := ⟨_, rfl⟩
        obtain ⟨x2, hx2⟩ : ∃ x, x = (l.getD k lab0).2 := ⟨_, rfl⟩
        rw [← hx1] at h1 hsz
        rw [← hx2] at h2 hsz
        have HX1 := Lib.hid hx1
        have HX2 := Lib.hid hx2
        have HC := Lib.hid hcell
        have hno := fun (h : (isNm x1 && decide (x2.size ≤ 16) && (decide (k = 0) || ltB (l.getD (k - 1) lab0).1 x1)) = false) => (show isSet l = false by
          rw [HR.out]
          rw [HX1.out, HX2.out] at h
          have := upTo_no (l := l) (k := k) h (n - (k + 1))
          rw [show k + 1 + (n - (k + 1)) = n from by omega] at this
          exact this)
        have HNO := Lib.hid hno
        have hnm := isname_any x1 (by omega) (wr.alloc (.cells #[.string x1, .string x2] 150))
        have hb2 : Below w.heap.size w (wr.alloc (.cells #[.string x1, .string x2] 150)) := HB.out.alloc HB.out.size _
        have HB2 := Lib.hid hb2
        clear hx1 hx2 hcell hno hb2
        cases hn : isNm x1 with
        | false =>
          rw [hn] at hnm
          have HN := Lib.hid hnm
          have HF := Lib.hid (HNO.out (by rw [hn]; rfl))
          clear hnm hn
          go_wp2_with fail
          refine HN.out.mono ?_
          rintro e w2 ⟨rfl, rfl⟩
          go_wp2_with fail
          go_ret
          rw [HF.out]; exact ⟨rfl, HB2.out⟩
        | true =>
          rw [hn] at hnm
          have HN := Lib.hid hnm
          have HNM := Lib.hid hn
          clear hnm hn
          by_cases h16 : 16 < x2.size
          · have HF := Lib.hid (HNO.out (by rw [decide_eq_false (show ¬ x2.size ≤ 16 by omega), Bool.and_false]; rfl))
            have h16i : (16 : Int) < (x2.size : Int) := by omega
            clear h16
            go_wp2_with fail
            refine HN.out.mono ?_
            rintro e w2 ⟨rfl, rfl⟩
            go_wp2_with fail
            go_ret
            rw [HF.out]; exact ⟨rfl, HB2.out⟩
          · have h16i : (x2.size : Int) ≤ 16 := by omega
            have HD := Lib.hid (show decide (x2.size ≤ 16) = true from decide_eq_true (by omega))
            clear h16
            rcases Nat.eq_zero_or_pos k with rfl | hk0
            · rw [Nat.zero_mul, Nat.add_zero] at h1 h2
              have HU2 := Lib.hid (show upTo l (0 + 1) = true by rw [upTo, HU.out, ← HX1.out, ← HX2.out, HNM.out, HD.out]; rfl)
              go_wp2_with fail
              refine HN.out.mono ?_
              rintro e w2 ⟨rfl, rfl⟩
              go_wp2_with fail
              go_quiet (fail)
              rename Nat => nq
              go_wp2_with fail
              go_roundw
              case rel => exact ⟨1, by omega, by go_num, HU2, Lib.hid (below_drewN HB2.out nq)⟩
              case measure => simp [intOf]; omega
            · obtain ⟨j, rfl⟩ : ∃ j, k = j + 1 := ⟨k - 1, by omega⟩
              obtain ⟨y, hy⟩ : ∃ y, y = (l.getD j lab0).1 := ⟨_, rfl⟩
              have hcy := (HC.out j (by omega)).1
              rw [← hy] at hcy
              have hcy2 : (wr.alloc (.cells #[.string x1, .string x2] 150)).cell? ⟨b, off + j * 2, none⟩ = some (.string y) := by
                rw [← hcy]; exact ((Below.refl wr.heap.size wr).alloc (Nat.le_refl _) _).cell (p := ⟨b, off + j * 2, none⟩) hlt
              have HY := Lib.hid hy
              have hjn : (j : Int) < (n : Int) := by omega
              have hw1 : IntKind.i64.wrap (j : Int) = (j : Int) := IntWalk.i64_in _ (by omega)
              have hw2 : IntKind.i64.wrap ((j : Int) + 1 - 1) = (j : Int) := by rw [Int.add_sub_cancel]; exact hw1
              clear hy hcy hk0
              cases hlt2 : ltB y x1 with
              | true =>
                have hle : (Op.bytesLess x1.toList y.toList || x1.toList == y.toList) = false := by rw [leq_not, hlt2]; rfl
                have HU2 := Lib.hid (show upTo l (j + 1 + 1) = true by rw [upTo, HU.out, ← HX1.out, ← HX2.out, HNM.out, HD.out, Nat.add_sub_cancel, ← HY.out, hlt2]; simp)
                clear hlt2
                go_wp2_with fail
                refine HN.out.mono ?_
                rintro e w2 ⟨rfl, rfl⟩
                go_wp2_with fail
                go_quiet (fail)
                rename Nat => nq
                go_wp2_with fail
                go_roundw
                case rel => exact ⟨j + 1 + 1, by omega, by go_num, HU2, Lib.hid (below_drewN HB2.out nq)⟩
                case measure => simp [intOf]; omega
              | false =>
                have hle : (Op.bytesLess x1.toList y.toList || x1.toList == y.toList) = true := by rw [leq_not, hlt2]; rfl
                have HF := Lib.hid (HNO.out (by rw [Nat.add_sub_cancel, ← HY.out, hlt2]; simp))
                clear hlt2
                go_wp2_with fail
                refine HN.out.mono ?_
                rintro e w2 ⟨rfl, rfl⟩
                go_wp2_with fail
                go_quiet (fail)
                rename Nat => nq
                go_wp2_with fail
                go_ret
                rw [HF.out]; exact ⟨rfl, below_drewN HB2.out nq⟩
      · obtain rfl : k = n := by omega
        have HT := Lib.hid (show isSet l = true by rw [HR.out]; exact HU.out)
        clear hkn
        go_wp2_with fail
        go_ret
        rw [HT.out]; exact ⟨rfl, HB.out⟩
end Go.Proofs.YtbdgcfimbblncaaGreatDoor
end PkMR7_6
