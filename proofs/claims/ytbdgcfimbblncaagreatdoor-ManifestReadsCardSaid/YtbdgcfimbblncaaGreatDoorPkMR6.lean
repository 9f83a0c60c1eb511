/- Texts put together by packtpl2.py: MfR. -/
import Derived.Test.YtbdgcfimbblncaaGreatDoorPkMR2
import Derived.Test.YtbdgcfimbblncaaGreatDoorPkMR3
import Derived.Test.YtbdgcfimbblncaaGreatDoorPkMR5
section PkMR6_0
/- Manifests: right marks and owners; what rises; of any. Written by genmfr.py. -/
namespace Go.Proofs.YtbdgcfimbblncaaGreatDoor
open Go.RowKit LabPlain
set_option linter.unusedVariables false

def withinB (n a b : Int) : Bool := decide (a ≤ n) && decide (n ≤ b)
set_option maxRecDepth 100000 in
theorem within_any (n a b : Int) (w : World) : Calls Tryz.prog 34 #[.int .i64 n, .int .i64 a, .int .i64 b] w fun e w' => e = .returned (.bool (withinB n a b)) ∧ w' = w := by
  by_cases h1 : a ≤ n
  · by_cases h2 : n ≤ b
    · have HT := Lib.hid (show withinB n a b = true from by simp [withinB, h1, h2])
      go_enter Tryz.func34, Tryz.ntmps34
      go_wp2_with fail
      go_ret
      exact ⟨by rw [HT.out]; rfl, rfl⟩
    · have HT := Lib.hid (show withinB n a b = false from by simp [withinB, h2])
      go_enter Tryz.func34, Tryz.ntmps34
      go_wp2_with fail
      go_ret
      exact ⟨by rw [HT.out]; rfl, rfl⟩
  · have HT := Lib.hid (show withinB n a b = false from by simp [withinB, h1])
    go_enter Tryz.func34, Tryz.ntmps34
    go_wp2_with fail
    go_ret
    exact ⟨by rw [HT.out]; rfl, rfl⟩
def isMarkB (x : Int × Int) : Bool := withinB x.1 1 64 && withinB x.2 1 1099511627775
def isOwnB (x : Int × Int × Int) : Bool := withinB x.1 1 8 && (withinB x.2.1 1 1099511627775 && withinB x.2.2 1 1099511627775)

set_option maxRecDepth 100000 in
theorem rightM_any (x0 x1 : Int) (w : World) : Calls Tryz.prog 41 #[.agg #[.int .i64 x0, .int .i64 x1]] w fun e w' => e = .returned (.bool (isMarkB (x0, x1))) ∧ Below w.heap.size w w' := by
  have HB := Lib.hid ((Below.refl w.heap.size w).alloc (Nat.le_refl _) (.cells #[.int .i64 x0, .int .i64 x1] 43))
  obtain ⟨b0, hb0⟩ : ∃ b, b = withinB x0 1 64 := ⟨_, rfl⟩
  have HW0 := Lib.hid (show ∀ W, Calls Tryz.prog 34 #[.int .i64 x0, .int .i64 1, .int .i64 64] W fun e w' => e = .returned (.bool b0) ∧ w' = W from fun W => by rw [hb0]; exact within_any _ _ _ W)
  obtain ⟨b1, hb1⟩ : ∃ b, b = withinB x1 1 1099511627775 := ⟨_, rfl⟩
  have HW1 := Lib.hid (show ∀ W, Calls Tryz.prog 34 #[.int .i64 x1, .int .i64 1, .int .i64 1099511627775] W fun e w' => e = .returned (.bool b1) ∧ w' = W from fun W => by rw [hb1]; exact within_any _ _ _ W)
  have HV := Lib.hid (show isMarkB (x0, x1) = (b0 && b1) from by rw [hb0, hb1]; rfl)
  clear hb0 hb1
  go_enter Tryz.func41, Tryz.ntmps41
  go_wp2_with fail
  refine (HW0.out _).mono ?_
  rintro e w1 ⟨rfl, rfl⟩
  cases b0 with
  | false =>
    go_wp2_with fail
    go_ret
    exact ⟨by rw [HV.out]; rfl, HB.out⟩
  | true =>
    go_wp2_with fail
    refine (HW1.out _).mono ?_
    rintro e w1 ⟨rfl, rfl⟩
    cases b1 with
    | false =>
      go_wp2_with fail
      go_ret
      exact ⟨by rw [HV.out]; rfl, HB.out⟩
    | true =>
      go_wp2_with fail
      go_ret
      exact ⟨by rw [HV.out]; rfl, HB.out⟩

set_option maxRecDepth 100000 in
theorem rightO_any (x0 x1 x2 : Int) (w : World) : Calls Tryz.prog 44 #[.agg #[.int .i64 x0, .int .i64 x1, .int .i64 x2]] w fun e w' => e = .returned (.bool (isOwnB (x0, x1, x2))) ∧ Below w.heap.size w w' := by
  have HB := Lib.hid ((Below.refl w.heap.size w).alloc (Nat.le_refl _) (.cells #[.int .i64 x0, .int .i64 x1, .int .i64 x2] 45))
  obtain ⟨b0, hb0⟩ : ∃ b, b = withinB x0 1 8 := ⟨_, rfl⟩
  have HW0 := Lib.hid (show ∀ W, Calls Tryz.prog 34 #[.int .i64 x0, .int .i64 1, .int .i64 8] W fun e w' => e = .returned (.bool b0) ∧ w' = W from fun W => by rw [hb0]; exact within_any _ _ _ W)
  obtain ⟨b1, hb1⟩ : ∃ b, b = withinB x1 1 1099511627775 := ⟨_, rfl⟩
  have HW1 := Lib.hid (show ∀ W, Calls Tryz.prog 34 #[.int .i64 x1, .int .i64 1, .int .i64 1099511627775] W fun e w' => e = .returned (.bool b1) ∧ w' = W from fun W => by rw [hb1]; exact within_any _ _ _ W)
  obtain ⟨b2, hb2⟩ : ∃ b, b = withinB x2 1 1099511627775 := ⟨_, rfl⟩
  have HW2 := Lib.hid (show ∀ W, Calls Tryz.prog 34 #[.int .i64 x2, .int .i64 1, .int .i64 1099511627775] W fun e w' => e = .returned (.bool b2) ∧ w' = W from fun W => by rw [hb2]; exact within_any _ _ _ W)
  have HV := Lib.hid (show isOwnB (x0, x1, x2) = (b0 && (b1 && b2)) from by rw [hb0, hb1, hb2]; rfl)
  clear hb0 hb1 hb2
  go_enter Tryz.func44, Tryz.ntmps44
  go_wp2_with fail
  refine (HW0.out _).mono ?_
  rintro e w1 ⟨rfl, rfl⟩
  cases b0 with
  | false =>
    go_wp2_with fail
    go_ret
    exact ⟨by rw [HV.out]; rfl, HB.out⟩
  | true =>
    go_wp2_with fail
    refine (HW1.out _).mono ?_
    rintro e w1 ⟨rfl, rfl⟩
    cases b1 with
    | false =>
      go_wp2_with fail
      go_ret
      exact ⟨by rw [HV.out]; rfl, HB.out⟩
    | true =>
      go_wp2_with fail
      refine (HW2.out _).mono ?_
      rintro e w1 ⟨rfl, rfl⟩
      cases b2 with
      | false =>
        go_wp2_with fail
        go_ret
        exact ⟨by rw [HV.out]; rfl, HB.out⟩
      | true =>
        go_wp2_with fail
        go_ret
        exact ⟨by rw [HV.out]; rfl, HB.out⟩

set_option maxRecDepth 100000 in
set_option maxHeartbeats 8000000 in
theorem rising_anyM {w : World} {a : Option Addr} {n c : Nat} {l : List (Int × Int)} (h : VecAt MarkS w a n c l) {mb : Nat} (p : (Int × Int) → Bool)
    (hR : ∀ (W : World) (z : (Int × Int)), z ∈ l → Below w.heap.size w W → MarkS.ok W z → Calls Tryz.prog 41 #[.agg #[.int .i64 z.1, .int .i64 z.2]] W fun e w' => e = .returned (.bool (p z)) ∧ Below W.heap.size W w') :
    Calls Tryz.prog 39 #[.slice a n c, .func (.func 40) #[] #[], .func (.func 41) #[] #[]] w fun e w' => RisIs p (fun a b => cmp3 a.1 b.1) MarkS.z l n e ∧ Below w.heap.size w w' := by
  have hcap := h.cap
  have hcm := h.capm
  have HH := Lib.hid h
  have HL := Lib.hid h.len
  have HR := Lib.hid hR
  clear h hR
  go_enter Tryz.func39, Tryz.ntmps39
  go_wp2_with fail
  go_loopw [7, 8, 11] (fun _ _ s11 wr => ∃ k : Nat, k ≤ n ∧ s11 = .int .i64 (k : Int) ∧ Hid (RisOk p (fun a b => cmp3 a.1 b.1) MarkS.z l k) ∧ Hid (Below w.heap.size w wr)) (fun _ _ s11 _ => n - (intOf s11).toNat)
  case atStart => exact ⟨0, by omega, rfl, Lib.hid (fun j hj => by omega), Lib.hid (Below.refl _ _)⟩
  case round =>
    obtain ⟨k, hk, rfl, HOK, HB⟩ := hrel
    rename World => wr
    by_cases hkn : k < n
    · have hki : (k : Int) < (n : Int) := by omega
      obtain ⟨sb, so, rfl, hsl, hok, hsc9⟩ := (HH.out.kept HB.out).get hkn
      obtain ⟨s, hse⟩ : ∃ s, s = l.getD k MarkS.z := ⟨_, rfl⟩
      obtain ⟨r, hre⟩ : ∃ r, r = l.getD (k - 1) MarkS.z := ⟨_, rfl⟩
      rw [← hse] at hsc9 hok
      have HSE := Lib.hid hse
      have HRE := Lib.hid hre
      have HSL := Lib.hid hsl
      have HSY := Lib.hid (show ∀ j u, (MarkS.f r)[j]? = some u → wr.cell? ⟨sb, so + (k - 1) * 2 + j, none⟩ = some u from by
        obtain ⟨sb2, so2, e2, _, _, hy⟩ := (HH.out.kept HB.out).get (show k - 1 < n by omega)
        cases e2
        rw [← hre] at hy
        exact hy)
      obtain ⟨x0, x1⟩ := s
      obtain ⟨y0, y1⟩ := r
      have d0 : wr.cell? ⟨sb, so + k * 2, none⟩ = some (.int .i64 x0) := hsc9 0 _ rfl
      have d1 : wr.cell? ⟨sb, so + k * 2 + 1, none⟩ = some (.int .i64 x1) := hsc9 1 _ rfl
      have HXA := Lib.hid (heap_alloc_new wr (.cells #[.int .i64 x0, .int .i64 x1] 43))
      have HXL := Lib.hid ((Array.getElem?_eq_some_iff.1 (heap_alloc_new wr (.cells #[.int .i64 x0, .int .i64 x1] 43))).1)
      have HAL := Lib.hid (show Below w.heap.size w (wr.alloc (.cells #[.int .i64 x0, .int .i64 x1] 43)) from HB.out.alloc HB.out.size _)
      obtain ⟨bx, hbx⟩ : ∃ bx, bx = p (x0, x1) := ⟨_, rfl⟩
      have HBX := Lib.hid hbx
      have HSLA := Lib.hid (show sb < (wr.alloc (.cells #[.int .i64 x0, .int .i64 x1] 43)).heap.size from Nat.lt_of_lt_of_le hsl ((Below.refl wr.heap.size wr).alloc (Nat.le_refl _) _).size)
      have HSYA := Lib.hid (show ∀ j u, (MarkS.f (y0, y1))[j]? = some u → (wr.alloc (.cells #[.int .i64 x0, .int .i64 x1] 43)).cell? ⟨sb, so + (k - 1) * 2 + j, none⟩ = some u from fun j u hu => (((Below.refl wr.heap.size wr).alloc (Nat.le_refl _) (.cells #[.int .i64 x0, .int .i64 x1] 43)).cell (p := ⟨sb, so + (k - 1) * 2 + j, none⟩) hsl).trans (HSY.out j u hu))
      have HOKX := Lib.hid (MarkS.mono ((Below.refl wr.heap.size wr).alloc (Nat.le_refl _) (.cells #[.int .i64 x0, .int .i64 x1] 43)) hok)
      have HRX := Lib.hid (show ∀ W9, Below (wr.alloc (.cells #[.int .i64 x0, .int .i64 x1] 43)).heap.size (wr.alloc (.cells #[.int .i64 x0, .int .i64 x1] 43)) W9 → Calls Tryz.prog 41 #[.agg #[.int .i64 x0, .int .i64 x1]] W9 fun e w' => e = .returned (.bool bx) ∧ Below W9.heap.size W9 w' from fun W9 hB => by
        rw [hbx]
        exact HR.out W9 (x0, x1) (by rw [hse]; exact vec_mem (S := MarkS) (by rw [HL.out]; exact hkn)) (HAL.out.trans (hB.mono HAL.out.size)) (MarkS.mono hB HOKX.out))
      clear hsc9 hse hre hsl hok HSL HSY
      have HSL := HSLA
      have HSY := HSYA
      clear HSLA HSYA
      go_wp2_with fail
      cases bx with
      | false =>
        have HNO := Lib.hid (RisIs.no (p := p) (cm := fun a b => cmp3 a.1 b.1) (d := MarkS.z) (l := l) hkn (fun g => by have h1 := g.1; rw [← HSE.out, ← HBX.out] at h1; cases h1))
        clear hbx
        refine wp_region_fill (by kernel_rfl) (by kernel_rfl) (by kernel_rfl) (Below (wr.alloc (.cells #[.int .i64 x0, .int .i64 x1] 43)).heap.size (wr.alloc (.cells #[.int .i64 x0, .int .i64 x1] 43))) (FV (fun j_9 => match j_9 with | 0 => some (.func (.func 41) #[] #[]) | 1 => some (.agg #[.int .i64 x0, .int .i64 x1]) | 2 => some (.bool false) | 3 => some (.bool true) | 4 => some (.bool true) | 5 => some (undef) | 6 => some (undef) | 7 => some (undef) | 8 => some (undef) | 9 => some (undef) | 10 => some (undef) | 11 => some (undef) | 12 => some (undef) | 13 => some (undef) | 14 => some (undef) | 15 => some (undef) | 16 => some (undef) | 17 => some (undef) | 18 => some (.bool true) | _ => none) (fun _ _ => True)) (Below.refl _ _).drew ?_ ?_
        · intro i9 o ho V w9 K hJ hdep hK
          have HJ := Lib.hid hJ
          simp only [fill, slotOf, List.size_toArray, List.length_cons, List.length_nil, Nat.reduceAdd, List.getElem?_toArray, List.getElem?_cons_zero, List.getElem?_cons_succ, Option.bind_some, Act.put, List.setIfInBounds_toArray, List.set_cons_zero, List.set_cons_succ] at hK ⊢
          have hin : i9 < 19 := (Array.getElem?_eq_some_iff.1 ho).1
          have hcs : i9 = 0 ∨ i9 = 1 ∨ i9 = 2 ∨ i9 = 3 ∨ i9 = 4 ∨ i9 = 5 ∨ i9 = 6 ∨ i9 = 7 ∨ i9 = 8 ∨ i9 = 9 ∨ i9 = 10 ∨ i9 = 11 ∨ i9 = 12 ∨ i9 = 13 ∨ i9 = 14 ∨ i9 = 15 ∨ i9 = 16 ∨ i9 = 17 ∨ i9 = 18 := by omega
          clear hin
          rcases hcs with rfl | rfl | rfl | rfl | rfl | rfl | rfl | rfl | rfl | rfl | rfl | rfl | rfl | rfl | rfl | rfl | rfl | rfl | rfl
          · obtain rfl := Option.some.inj ho.symm
            clear hdep ho hJ
            try simp only [fill, slotOf, List.size_toArray, List.length_cons, List.length_nil, Nat.reduceAdd, List.getElem?_toArray, List.getElem?_cons_zero, List.getElem?_cons_succ, Option.bind_some, Act.put, List.setIfInBounds_toArray, List.set_cons_zero, List.set_cons_succ] at hK ⊢
            go_simp
            exact hK (.func (.func 41) #[] #[]) _ HJ.out rfl (fun j y h => h) _ rfl
          · obtain rfl := Option.some.inj ho.symm
            have e0 : w9.cell? ⟨wr.heap.size, 0, none⟩ = some (.int .i64 x0) := (hJ.cell (p := ⟨wr.heap.size, 0, none⟩) HXL.out).trans (cell_blk HXA.out rfl)
            have e1 : w9.cell? ⟨wr.heap.size, 1, none⟩ = some (.int .i64 x1) := (hJ.cell (p := ⟨wr.heap.size, 1, none⟩) HXL.out).trans (cell_blk HXA.out rfl)
            clear hdep ho hJ
            try simp only [fill, slotOf, List.size_toArray, List.length_cons, List.length_nil, Nat.reduceAdd, List.getElem?_toArray, List.getElem?_cons_zero, List.getElem?_cons_succ, Option.bind_some, Act.put, List.setIfInBounds_toArray, List.set_cons_zero, List.set_cons_succ] at hK ⊢
            go_simp
            exact hK (.agg #[.int .i64 x0, .int .i64 x1]) _ HJ.out rfl (fun j y h => h) _ rfl
          · obtain rfl := Option.some.inj ho.symm
            have d0 : V 0 = .func (.func 41) #[] #[] := hdep ⟨0, .data⟩ (by simp) rfl
            have d1 : V 1 = .agg #[.int .i64 x0, .int .i64 x1] := hdep ⟨1, .data⟩ (by simp) rfl
            clear hdep ho hJ
            try simp only [fill, slotOf, List.size_toArray, List.length_cons, List.length_nil, Nat.reduceAdd, List.getElem?_toArray, List.getElem?_cons_zero, List.getElem?_cons_succ, Option.bind_some, Act.put, List.setIfInBounds_toArray, List.set_cons_zero, List.set_cons_succ] at hK ⊢
            rw [d0, d1] at hK ⊢
            go_simp
            refine (HRX.out w9 HJ.out).mono ?_
            rintro e w8 ⟨rfl, hb8⟩
            exact hK (.bool false) _ (HJ.out.trans (hb8.mono HJ.out.size)) rfl (FV.mono ((fun _ _ _ => trivial) hb8)) _ rfl
          · obtain rfl := Option.some.inj ho.symm
            have d2 : V 2 = .bool false := hdep ⟨2, .data⟩ (by simp) rfl
            clear hdep ho hJ
            try simp only [fill, slotOf, List.size_toArray, List.length_cons, List.length_nil, Nat.reduceAdd, List.getElem?_toArray, List.getElem?_cons_zero, List.getElem?_cons_succ, Option.bind_some, Act.put, List.setIfInBounds_toArray, List.set_cons_zero, List.set_cons_succ] at hK ⊢
            rw [d2] at hK ⊢
            go_simp
            exact hK (.bool true) _ HJ.out rfl (fun j y h => h) _ rfl
          · obtain rfl := Option.some.inj ho.symm
            have d3 : V 3 = .bool true := hdep ⟨3, .data⟩ (by simp) rfl
            clear hdep ho hJ
            try simp only [fill, slotOf, List.size_toArray, List.length_cons, List.length_nil, Nat.reduceAdd, List.getElem?_toArray, List.getElem?_cons_zero, List.getElem?_cons_succ, Option.bind_some, Act.put, List.setIfInBounds_toArray, List.set_cons_zero, List.set_cons_succ] at hK ⊢
            rw [d3] at hK ⊢
            go_simp
            exact hK (.bool true) _ HJ.out rfl (fun j y h => h) _ rfl
          · obtain rfl := Option.some.inj ho.symm
            have d4 : V 4 = .bool true := hdep ⟨4, .guard⟩ (by simp) rfl
            clear hdep ho hJ
            try simp only [fill, slotOf, List.size_toArray, List.length_cons, List.length_nil, Nat.reduceAdd, List.getElem?_toArray, List.getElem?_cons_zero, List.getElem?_cons_succ, Option.bind_some, Act.put, List.setIfInBounds_toArray, List.set_cons_zero, List.set_cons_succ] at hK ⊢
            rw [d4] at hK ⊢
            go_simp
            exact hK (undef) _ HJ.out rfl (fun j y h => h) _ rfl
          · obtain rfl := Option.some.inj ho.symm
            have d4 : V 4 = .bool true := hdep ⟨4, .guard⟩ (by simp) rfl
            clear hdep ho hJ
            try simp only [fill, slotOf, List.size_toArray, List.length_cons, List.length_nil, Nat.reduceAdd, List.getElem?_toArray, List.getElem?_cons_zero, List.getElem?_cons_succ, Option.bind_some, Act.put, List.setIfInBounds_toArray, List.set_cons_zero, List.set_cons_succ] at hK ⊢
            rw [d4] at hK ⊢
            go_simp
            exact hK (undef) _ HJ.out rfl (fun j y h => h) _ rfl
          · obtain rfl := Option.some.inj ho.symm
            have d4 : V 4 = .bool true := hdep ⟨4, .guard⟩ (by simp) rfl
            clear hdep ho hJ
            try simp only [fill, slotOf, List.size_toArray, List.length_cons, List.length_nil, Nat.reduceAdd, List.getElem?_toArray, List.getElem?_cons_zero, List.getElem?_cons_succ, Option.bind_some, Act.put, List.setIfInBounds_toArray, List.set_cons_zero, List.set_cons_succ] at hK ⊢
            rw [d4] at hK ⊢
            go_simp
            exact hK (undef) _ HJ.out rfl (fun j y h => h) _ rfl
          · obtain rfl := Option.some.inj ho.symm
            have d7 : V 7 = undef := hdep ⟨7, .guard⟩ (by simp) rfl
            clear hdep ho hJ
            try simp only [fill, slotOf, List.size_toArray, List.length_cons, List.length_nil, Nat.reduceAdd, List.getElem?_toArray, List.getElem?_cons_zero, List.getElem?_cons_succ, Option.bind_some, Act.put, List.setIfInBounds_toArray, List.set_cons_zero, List.set_cons_succ] at hK ⊢
            rw [d7] at hK ⊢
            go_simp
            exact hK (undef) _ HJ.out rfl (fun j y h => h) _ rfl
          · obtain rfl := Option.some.inj ho.symm
            have d7 : V 7 = undef := hdep ⟨7, .guard⟩ (by simp) rfl
            clear hdep ho hJ
            try simp only [fill, slotOf, List.size_toArray, List.length_cons, List.length_nil, Nat.reduceAdd, List.getElem?_toArray, List.getElem?_cons_zero, List.getElem?_cons_succ, Option.bind_some, Act.put, List.setIfInBounds_toArray, List.set_cons_zero, List.set_cons_succ] at hK ⊢
            rw [d7] at hK ⊢
            go_simp
            exact hK (undef) _ HJ.out rfl (fun j y h => h) _ rfl
          · obtain rfl := Option.some.inj ho.symm
            have d7 : V 7 = undef := hdep ⟨7, .guard⟩ (by simp) rfl
            clear hdep ho hJ
            try simp only [fill, slotOf, List.size_toArray, List.length_cons, List.length_nil, Nat.reduceAdd, List.getElem?_toArray, List.getElem?_cons_zero, List.getElem?_cons_succ, Option.bind_some, Act.put, List.setIfInBounds_toArray, List.set_cons_zero, List.set_cons_succ] at hK ⊢
            rw [d7] at hK ⊢
            go_simp
            exact hK (undef) _ HJ.out rfl (fun j y h => h) _ rfl
          · obtain rfl := Option.some.inj ho.symm
            have d7 : V 7 = undef := hdep ⟨7, .guard⟩ (by simp) rfl
            clear hdep ho hJ
            try simp only [fill, slotOf, List.size_toArray, List.length_cons, List.length_nil, Nat.reduceAdd, List.getElem?_toArray, List.getElem?_cons_zero, List.getElem?_cons_succ, Option.bind_some, Act.put, List.setIfInBounds_toArray, List.set_cons_zero, List.set_cons_succ] at hK ⊢
            rw [d7] at hK ⊢
            go_simp
            exact hK (undef) _ HJ.out rfl (fun j y h => h) _ rfl
          · obtain rfl := Option.some.inj ho.symm
            have d7 : V 7 = undef := hdep ⟨7, .guard⟩ (by simp) rfl
            clear hdep ho hJ
            try simp only [fill, slotOf, List.size_toArray, List.length_cons, List.length_nil, Nat.reduceAdd, List.getElem?_toArray, List.getElem?_cons_zero, List.getElem?_cons_succ, Option.bind_some, Act.put, List.setIfInBounds_toArray, List.set_cons_zero, List.set_cons_succ] at hK ⊢
            rw [d7] at hK ⊢
            go_simp
            exact hK (undef) _ HJ.out rfl (fun j y h => h) _ rfl
          · obtain rfl := Option.some.inj ho.symm
            have d7 : V 7 = undef := hdep ⟨7, .guard⟩ (by simp) rfl
            clear hdep ho hJ
            try simp only [fill, slotOf, List.size_toArray, List.length_cons, List.length_nil, Nat.reduceAdd, List.getElem?_toArray, List.getElem?_cons_zero, List.getElem?_cons_succ, Option.bind_some, Act.put, List.setIfInBounds_toArray, List.set_cons_zero, List.set_cons_succ] at hK ⊢
            rw [d7] at hK ⊢
            go_simp
            exact hK (undef) _ HJ.out rfl (fun j y h => h) _ rfl
          · obtain rfl := Option.some.inj ho.symm
            have d7 : V 7 = undef := hdep ⟨7, .guard⟩ (by simp) rfl
            clear hdep ho hJ
            try simp only [fill, slotOf, List.size_toArray, List.length_cons, List.length_nil, Nat.reduceAdd, List.getElem?_toArray, List.getElem?_cons_zero, List.getElem?_cons_succ, Option.bind_some, Act.put, List.setIfInBounds_toArray, List.set_cons_zero, List.set_cons_succ] at hK ⊢
            rw [d7] at hK ⊢
            go_simp
            exact hK (undef) _ HJ.out rfl (fun j y h => h) _ rfl
          · obtain rfl := Option.some.inj ho.symm
            have d7 : V 7 = undef := hdep ⟨7, .guard⟩ (by simp) rfl
            clear hdep ho hJ
            try simp only [fill, slotOf, List.size_toArray, List.length_cons, List.length_nil, Nat.reduceAdd, List.getElem?_toArray, List.getElem?_cons_zero, List.getElem?_cons_succ, Option.bind_some, Act.put, List.setIfInBounds_toArray, List.set_cons_zero, List.set_cons_succ] at hK ⊢
            rw [d7] at hK ⊢
            go_simp
            exact hK (undef) _ HJ.out rfl (fun j y h => h) _ rfl
          · obtain rfl := Option.some.inj ho.symm
            have d7 : V 7 = undef := hdep ⟨7, .guard⟩ (by simp) rfl
            clear hdep ho hJ
            try simp only [fill, slotOf, List.size_toArray, List.length_cons, List.length_nil, Nat.reduceAdd, List.getElem?_toArray, List.getElem?_cons_zero, List.getElem?_cons_succ, Option.bind_some, Act.put, List.setIfInBounds_toArray, List.set_cons_zero, List.set_cons_succ] at hK ⊢
            rw [d7] at hK ⊢
            go_simp
            exact hK (undef) _ HJ.out rfl (fun j y h => h) _ rfl
          · obtain rfl := Option.some.inj ho.symm
            have d4 : V 4 = .bool true := hdep ⟨4, .guard⟩ (by simp) rfl
            clear hdep ho hJ
            try simp only [fill, slotOf, List.size_toArray, List.length_cons, List.length_nil, Nat.reduceAdd, List.getElem?_toArray, List.getElem?_cons_zero, List.getElem?_cons_succ, Option.bind_some, Act.put, List.setIfInBounds_toArray, List.set_cons_zero, List.set_cons_succ] at hK ⊢
            rw [d4] at hK ⊢
            go_simp
            exact hK (undef) _ HJ.out rfl (fun j y h => h) _ rfl
          · obtain rfl := Option.some.inj ho.symm
            have d4 : V 4 = .bool true := hdep ⟨4, .data⟩ (by simp) rfl
            clear hdep ho hJ
            try simp only [fill, slotOf, List.size_toArray, List.length_cons, List.length_nil, Nat.reduceAdd, List.getElem?_toArray, List.getElem?_cons_zero, List.getElem?_cons_succ, Option.bind_some, Act.put, List.setIfInBounds_toArray, List.set_cons_zero, List.set_cons_succ] at hK ⊢
            rw [d4] at hK ⊢
            go_simp
            exact hK (.bool true) _ HJ.out rfl (fun j y h => h) _ rfl
        · intro V w9 hJ hall
          have dL : V 18 = .bool true := hall 18 (by decide)
          have HJ9 := Lib.hid hJ
          clear hall hJ
          simp only [fill, slotOf, List.size_toArray, List.length_cons, List.length_nil, Nat.reduceAdd, List.getElem?_toArray, List.getElem?_cons_zero, List.getElem?_cons_succ, Option.bind_some, Act.put, List.setIfInBounds_toArray, List.set_cons_zero, List.set_cons_succ]
          rw [dL]
          clear dL
          have HBZ := Lib.hid (HAL.out.trans (HJ9.out.mono HAL.out.size))
          go_wp2_with fail
          go_ret
          exact ⟨HNO.out, HBZ.out⟩
      | true =>
        by_cases hk0 : k = 0
        · subst hk0
          have HOK2 := Lib.hid (HOK.out.succ (by rw [← HSE.out, ← HBX.out]) (fun g => absurd g (Nat.lt_irrefl 0)))
          clear hbx
          refine wp_region_fill (by kernel_rfl) (by kernel_rfl) (by kernel_rfl) (Below (wr.alloc (.cells #[.int .i64 x0, .int .i64 x1] 43)).heap.size (wr.alloc (.cells #[.int .i64 x0, .int .i64 x1] 43))) (FV (fun j_9 => match j_9 with | 0 => some (.func (.func 41) #[] #[]) | 1 => some (.agg #[.int .i64 x0, .int .i64 x1]) | 2 => some (.bool true) | 3 => some (.bool false) | 4 => some (.bool false) | 5 => some (.int .i64 0) | 6 => some (.bool false) | 7 => some (.bool false) | 8 => some (undef) | 9 => some (undef) | 10 => some (undef) | 11 => some (undef) | 12 => some (undef) | 13 => some (undef) | 14 => some (undef) | 15 => some (undef) | 16 => some (undef) | 17 => some (.bool false) | 18 => some (.bool false) | _ => none) (fun _ _ => True)) (Below.refl _ _).drew ?_ ?_
          · intro i9 o ho V w9 K hJ hdep hK
            have HJ := Lib.hid hJ
            simp only [fill, slotOf, List.size_toArray, List.length_cons, List.length_nil, Nat.reduceAdd, List.getElem?_toArray, List.getElem?_cons_zero, List.getElem?_cons_succ, Option.bind_some, Act.put, List.setIfInBounds_toArray, List.set_cons_zero, List.set_cons_succ] at hK ⊢
            have hin : i9 < 19 := (Array.getElem?_eq_some_iff.1 ho).1
            have hcs : i9 = 0 ∨ i9 = 1 ∨ i9 = 2 ∨ i9 = 3 ∨ i9 = 4 ∨ i9 = 5 ∨ i9 = 6 ∨ i9 = 7 ∨ i9 = 8 ∨ i9 = 9 ∨ i9 = 10 ∨ i9 = 11 ∨ i9 = 12 ∨ i9 = 13 ∨ i9 = 14 ∨ i9 = 15 ∨ i9 = 16 ∨ i9 = 17 ∨ i9 = 18 := by omega
            clear hin
            rcases hcs with rfl | rfl | rfl | rfl | rfl | rfl | rfl | rfl | rfl | rfl | rfl | rfl | rfl | rfl | rfl | rfl | rfl | rfl | rfl
            · obtain rfl := Option.some.inj ho.symm
              clear hdep ho hJ
              try simp only [fill, slotOf, List.size_toArray, List.length_cons, List.length_nil, Nat.reduceAdd, List.getElem?_toArray, List.getElem?_cons_zero, List.getElem?_cons_succ, Option.bind_some, Act.put, List.setIfInBounds_toArray, List.set_cons_zero, List.set_cons_succ] at hK ⊢
              go_simp
              exact hK (.func (.func 41) #[] #[]) _ HJ.out rfl (fun j y h => h) _ rfl
            · obtain rfl := Option.some.inj ho.symm
              have e0 : w9.cell? ⟨wr.heap.size, 0, none⟩ = some (.int .i64 x0) := (hJ.cell (p := ⟨wr.heap.size, 0, none⟩) HXL.out).trans (cell_blk HXA.out rfl)
              have e1 : w9.cell? ⟨wr.heap.size, 1, none⟩ = some (.int .i64 x1) := (hJ.cell (p := ⟨wr.heap.size, 1, none⟩) HXL.out).trans (cell_blk HXA.out rfl)
              clear hdep ho hJ
              try simp only [fill, slotOf, List.size_toArray, List.length_cons, List.length_nil, Nat.reduceAdd, List.getElem?_toArray, List.getElem?_cons_zero, List.getElem?_cons_succ, Option.bind_some, Act.put, List.setIfInBounds_toArray, List.set_cons_zero, List.set_cons_succ] at hK ⊢
              go_simp
              exact hK (.agg #[.int .i64 x0, .int .i64 x1]) _ HJ.out rfl (fun j y h => h) _ rfl
            · obtain rfl := Option.some.inj ho.symm
              have d0 : V 0 = .func (.func 41) #[] #[] := hdep ⟨0, .data⟩ (by simp) rfl
              have d1 : V 1 = .agg #[.int .i64 x0, .int .i64 x1] := hdep ⟨1, .data⟩ (by simp) rfl
              clear hdep ho hJ
              try simp only [fill, slotOf, List.size_toArray, List.length_cons, List.length_nil, Nat.reduceAdd, List.getElem?_toArray, List.getElem?_cons_zero, List.getElem?_cons_succ, Option.bind_some, Act.put, List.setIfInBounds_toArray, List.set_cons_zero, List.set_cons_succ] at hK ⊢
              rw [d0, d1] at hK ⊢
              go_simp
              refine (HRX.out w9 HJ.out).mono ?_
              rintro e w8 ⟨rfl, hb8⟩
              exact hK (.bool true) _ (HJ.out.trans (hb8.mono HJ.out.size)) rfl (FV.mono ((fun _ _ _ => trivial) hb8)) _ rfl
            · obtain rfl := Option.some.inj ho.symm
              have d2 : V 2 = .bool true := hdep ⟨2, .data⟩ (by simp) rfl
              clear hdep ho hJ
              try simp only [fill, slotOf, List.size_toArray, List.length_cons, List.length_nil, Nat.reduceAdd, List.getElem?_toArray, List.getElem?_cons_zero, List.getElem?_cons_succ, Option.bind_some, Act.put, List.setIfInBounds_toArray, List.set_cons_zero, List.set_cons_succ] at hK ⊢
              rw [d2] at hK ⊢
              go_simp
              exact hK (.bool false) _ HJ.out rfl (fun j y h => h) _ rfl
            · obtain rfl := Option.some.inj ho.symm
              have d3 : V 3 = .bool false := hdep ⟨3, .data⟩ (by simp) rfl
              clear hdep ho hJ
              try simp only [fill, slotOf, List.size_toArray, List.length_cons, List.length_nil, Nat.reduceAdd, List.getElem?_toArray, List.getElem?_cons_zero, List.getElem?_cons_succ, Option.bind_some, Act.put, List.setIfInBounds_toArray, List.set_cons_zero, List.set_cons_succ] at hK ⊢
              rw [d3] at hK ⊢
              go_simp
              exact hK (.bool false) _ HJ.out rfl (fun j y h => h) _ rfl
            · obtain rfl := Option.some.inj ho.symm
              have d4 : V 4 = .bool false := hdep ⟨4, .guard⟩ (by simp) rfl
              clear hdep ho hJ
              try simp only [fill, slotOf, List.size_toArray, List.length_cons, List.length_nil, Nat.reduceAdd, List.getElem?_toArray, List.getElem?_cons_zero, List.getElem?_cons_succ, Option.bind_some, Act.put, List.setIfInBounds_toArray, List.set_cons_zero, List.set_cons_succ] at hK ⊢
              rw [d4] at hK ⊢
              go_simp
              exact hK (.int .i64 0) _ HJ.out rfl (fun j y h => h) _ rfl
            · obtain rfl := Option.some.inj ho.symm
              have d5 : V 5 = .int .i64 0 := hdep ⟨5, .data⟩ (by simp) rfl
              have d4 : V 4 = .bool false := hdep ⟨4, .guard⟩ (by simp) rfl
              clear hdep ho hJ
              try simp only [fill, slotOf, List.size_toArray, List.length_cons, List.length_nil, Nat.reduceAdd, List.getElem?_toArray, List.getElem?_cons_zero, List.getElem?_cons_succ, Option.bind_some, Act.put, List.setIfInBounds_toArray, List.set_cons_zero, List.set_cons_succ] at hK ⊢
              rw [d5, d4] at hK ⊢
              go_simp
              exact hK (.bool false) _ HJ.out rfl (fun j y h => h) _ rfl
            · obtain rfl := Option.some.inj ho.symm
              have d6 : V 6 = .bool false := hdep ⟨6, .data⟩ (by simp) rfl
              have d4 : V 4 = .bool false := hdep ⟨4, .guard⟩ (by simp) rfl
              clear hdep ho hJ
              try simp only [fill, slotOf, List.size_toArray, List.length_cons, List.length_nil, Nat.reduceAdd, List.getElem?_toArray, List.getElem?_cons_zero, List.getElem?_cons_succ, Option.bind_some, Act.put, List.setIfInBounds_toArray, List.set_cons_zero, List.set_cons_succ] at hK ⊢
              rw [d6, d4] at hK ⊢
              go_simp
              exact hK (.bool false) _ HJ.out rfl (fun j y h => h) _ rfl
            · obtain rfl := Option.some.inj ho.symm
              have d7 : V 7 = .bool false := hdep ⟨7, .guard⟩ (by simp) rfl
              clear hdep ho hJ
              try simp only [fill, slotOf, List.size_toArray, List.length_cons, List.length_nil, Nat.reduceAdd, List.getElem?_toArray, List.getElem?_cons_zero, List.getElem?_cons_succ, Option.bind_some, Act.put, List.setIfInBounds_toArray, List.set_cons_zero, List.set_cons_succ] at hK ⊢
              rw [d7] at hK ⊢
              go_simp
              exact hK (undef) _ HJ.out rfl (fun j y h => h) _ rfl
            · obtain rfl := Option.some.inj ho.symm
              have d7 : V 7 = .bool false := hdep ⟨7, .guard⟩ (by simp) rfl
              clear hdep ho hJ
              try simp only [fill, slotOf, List.size_toArray, List.length_cons, List.length_nil, Nat.reduceAdd, List.getElem?_toArray, List.getElem?_cons_zero, List.getElem?_cons_succ, Option.bind_some, Act.put, List.setIfInBounds_toArray, List.set_cons_zero, List.set_cons_succ] at hK ⊢
              rw [d7] at hK ⊢
              go_simp
              exact hK (undef) _ HJ.out rfl (fun j y h => h) _ rfl
            · obtain rfl := Option.some.inj ho.symm
              have d7 : V 7 = .bool false := hdep ⟨7, .guard⟩ (by simp) rfl
              clear hdep ho hJ
              try simp only [fill, slotOf, List.size_toArray, List.length_cons, List.length_nil, Nat.reduceAdd, List.getElem?_toArray, List.getElem?_cons_zero, List.getElem?_cons_succ, Option.bind_some, Act.put, List.setIfInBounds_toArray, List.set_cons_zero, List.set_cons_succ] at hK ⊢
              rw [d7] at hK ⊢
              go_simp
              exact hK (undef) _ HJ.out rfl (fun j y h => h) _ rfl
            · obtain rfl := Option.some.inj ho.symm
              have d7 : V 7 = .bool false := hdep ⟨7, .guard⟩ (by simp) rfl
              clear hdep ho hJ
              try simp only [fill, slotOf, List.size_toArray, List.length_cons, List.length_nil, Nat.reduceAdd, List.getElem?_toArray, List.getElem?_cons_zero, List.getElem?_cons_succ, Option.bind_some, Act.put, List.setIfInBounds_toArray, List.set_cons_zero, List.set_cons_succ] at hK ⊢
              rw [d7] at hK ⊢
              go_simp
              exact hK (undef) _ HJ.out rfl (fun j y h => h) _ rfl
            · obtain rfl := Option.some.inj ho.symm
              have d7 : V 7 = .bool false := hdep ⟨7, .guard⟩ (by simp) rfl
              clear hdep ho hJ
              try simp only [fill, slotOf, List.size_toArray, List.length_cons, List.length_nil, Nat.reduceAdd, List.getElem?_toArray, List.getElem?_cons_zero, List.getElem?_cons_succ, Option.bind_some, Act.put, List.setIfInBounds_toArray, List.set_cons_zero, List.set_cons_succ] at hK ⊢
              rw [d7] at hK ⊢
              go_simp
              exact hK (undef) _ HJ.out rfl (fun j y h => h) _ rfl
            · obtain rfl := Option.some.inj ho.symm
              have d7 : V 7 = .bool false := hdep ⟨7, .guard⟩ (by simp) rfl
              clear hdep ho hJ
              try simp only [fill, slotOf, List.size_toArray, List.length_cons, List.length_nil, Nat.reduceAdd, List.getElem?_toArray, List.getElem?_cons_zero, List.getElem?_cons_succ, Option.bind_some, Act.put, List.setIfInBounds_toArray, List.set_cons_zero, List.set_cons_succ] at hK ⊢
              rw [d7] at hK ⊢
              go_simp
              exact hK (undef) _ HJ.out rfl (fun j y h => h) _ rfl
            · obtain rfl := Option.some.inj ho.symm
              have d7 : V 7 = .bool false := hdep ⟨7, .guard⟩ (by simp) rfl
              clear hdep ho hJ
              try simp only [fill, slotOf, List.size_toArray, List.length_cons, List.length_nil, Nat.reduceAdd, List.getElem?_toArray, List.getElem?_cons_zero, List.getElem?_cons_succ, Option.bind_some, Act.put, List.setIfInBounds_toArray, List.set_cons_zero, List.set_cons_succ] at hK ⊢
              rw [d7] at hK ⊢
              go_simp
              exact hK (undef) _ HJ.out rfl (fun j y h => h) _ rfl
            · obtain rfl := Option.some.inj ho.symm
              have d7 : V 7 = .bool false := hdep ⟨7, .guard⟩ (by simp) rfl
              clear hdep ho hJ
              try simp only [fill, slotOf, List.size_toArray, List.length_cons, List.length_nil, Nat.reduceAdd, List.getElem?_toArray, List.getElem?_cons_zero, List.getElem?_cons_succ, Option.bind_some, Act.put, List.setIfInBounds_toArray, List.set_cons_zero, List.set_cons_succ] at hK ⊢
              rw [d7] at hK ⊢
              go_simp
              exact hK (undef) _ HJ.out rfl (fun j y h => h) _ rfl
            · obtain rfl := Option.some.inj ho.symm
              have d7 : V 7 = .bool false := hdep ⟨7, .guard⟩ (by simp) rfl
              clear hdep ho hJ
              try simp only [fill, slotOf, List.size_toArray, List.length_cons, List.length_nil, Nat.reduceAdd, List.getElem?_toArray, List.getElem?_cons_zero, List.getElem?_cons_succ, Option.bind_some, Act.put, List.setIfInBounds_toArray, List.set_cons_zero, List.set_cons_succ] at hK ⊢
              rw [d7] at hK ⊢
              go_simp
              exact hK (undef) _ HJ.out rfl (fun j y h => h) _ rfl
            · obtain rfl := Option.some.inj ho.symm
              have d7 : V 7 = .bool false := hdep ⟨7, .data⟩ (by simp) rfl
              have d4 : V 4 = .bool false := hdep ⟨4, .guard⟩ (by simp) rfl
              clear hdep ho hJ
              try simp only [fill, slotOf, List.size_toArray, List.length_cons, List.length_nil, Nat.reduceAdd, List.getElem?_toArray, List.getElem?_cons_zero, List.getElem?_cons_succ, Option.bind_some, Act.put, List.setIfInBounds_toArray, List.set_cons_zero, List.set_cons_succ] at hK ⊢
              rw [d7, d4] at hK ⊢
              go_simp
              exact hK (.bool false) _ HJ.out rfl (fun j y h => h) _ rfl
            · obtain rfl := Option.some.inj ho.symm
              have d4 : V 4 = .bool false := hdep ⟨4, .data⟩ (by simp) rfl
              have d17 : V 17 = .bool false := hdep ⟨17, .data⟩ (by simp) rfl
              clear hdep ho hJ
              try simp only [fill, slotOf, List.size_toArray, List.length_cons, List.length_nil, Nat.reduceAdd, List.getElem?_toArray, List.getElem?_cons_zero, List.getElem?_cons_succ, Option.bind_some, Act.put, List.setIfInBounds_toArray, List.set_cons_zero, List.set_cons_succ] at hK ⊢
              rw [d4, d17] at hK ⊢
              go_simp
              exact hK (.bool false) _ HJ.out rfl (fun j y h => h) _ rfl
          · intro V w9 hJ hall
            have dL : V 18 = .bool false := hall 18 (by decide)
            have HJ9 := Lib.hid hJ
            clear hall hJ
            simp only [fill, slotOf, List.size_toArray, List.length_cons, List.length_nil, Nat.reduceAdd, List.getElem?_toArray, List.getElem?_cons_zero, List.getElem?_cons_succ, Option.bind_some, Act.put, List.setIfInBounds_toArray, List.set_cons_zero, List.set_cons_succ]
            rw [dL]
            clear dL
            have HBZ := Lib.hid (HAL.out.trans (HJ9.out.mono HAL.out.size))
            go_wp2_with fail
            go_roundw
            case rel => exact ⟨1, by omega, rfl, HOK2, HBZ⟩
            case measure => simp [intOf]; try omega
        · obtain ⟨j, rfl⟩ : ∃ j, k = j + 1 := ⟨k - 1, by omega⟩
          have HSYJ := Lib.hid HSY.out
          simp only [Nat.add_sub_cancel] at HSYJ
          clear HSY
          have HSY := HSYJ
          clear HSYJ
          obtain ⟨zz, hzz⟩ : ∃ zz, zz = cmp3 y0 x0 := ⟨_, rfl⟩
          have HCM := Lib.hid (show ∀ W9, Calls Tryz.prog 40 #[.agg #[.int .i64 y0, .int .i64 y1], .agg #[.int .i64 x0, .int .i64 x1]] W9 fun e w' => e = .returned (.int .i64 zz) ∧ Below W9.heap.size W9 w' from fun W9 => by rw [hzz]; exact byM_any y0 x0 y1 x1 W9)
          by_cases hge : zz ≥ 0
          · have HZ := Lib.hid (show decide (zz ≥ 0) = true from decide_eq_true hge)
            have HNO := Lib.hid (RisIs.no (p := p) (cm := fun a b => cmp3 a.1 b.1) (d := MarkS.z) (l := l) hkn (fun g => by have h1 := g.2 (by omega); rw [← HSE.out, ← HRE.out] at h1; have h2 : cmp3 y0 x0 < 0 := h1; rw [← hzz] at h2; omega))
            clear hbx hzz hge
            refine wp_region_fill (by kernel_rfl) (by kernel_rfl) (by kernel_rfl) (Below (wr.alloc (.cells #[.int .i64 x0, .int .i64 x1] 43)).heap.size (wr.alloc (.cells #[.int .i64 x0, .int .i64 x1] 43))) (FV (fun j_9 => match j_9 with | 0 => some (.func (.func 41) #[] #[]) | 1 => some (.agg #[.int .i64 x0, .int .i64 x1]) | 2 => some (.bool true) | 3 => some (.bool false) | 4 => some (.bool false) | 5 => some (.int .i64 ((j : Int) + 1)) | 6 => some (.bool true) | 7 => some (.bool true) | 8 => some (.func (.func 40) #[] #[]) | 9 => some (.slice (some ⟨sb, so, none⟩) n c) | 10 => some (.int .i64 ((j : Int) + 1)) | 11 => some (.int .i64 (j : Int)) | 12 => some (.pointer (some ⟨sb, so + j * 2, none⟩)) | 13 => some (.agg #[.int .i64 y0, .int .i64 y1]) | 14 => some (.agg #[.int .i64 x0, .int .i64 x1]) | 15 => some (.int .i64 zz) | 16 => some (.bool true) | 17 => some (.bool true) | 18 => some (.bool true) | _ => none) (fun _ _ => True)) (Below.refl _ _).drew ?_ ?_
            · intro i9 o ho V w9 K hJ hdep hK
              have HJ := Lib.hid hJ
              simp only [fill, slotOf, List.size_toArray, List.length_cons, List.length_nil, Nat.reduceAdd, List.getElem?_toArray, List.getElem?_cons_zero, List.getElem?_cons_succ, Option.bind_some, Act.put, List.setIfInBounds_toArray, List.set_cons_zero, List.set_cons_succ] at hK ⊢
              have hin : i9 < 19 := (Array.getElem?_eq_some_iff.1 ho).1
              have hcs : i9 = 0 ∨ i9 = 1 ∨ i9 = 2 ∨ i9 = 3 ∨ i9 = 4 ∨ i9 = 5 ∨ i9 = 6 ∨ i9 = 7 ∨ i9 = 8 ∨ i9 = 9 ∨ i9 = 10 ∨ i9 = 11 ∨ i9 = 12 ∨ i9 = 13 ∨ i9 = 14 ∨ i9 = 15 ∨ i9 = 16 ∨ i9 = 17 ∨ i9 = 18 := by omega
              clear hin
              rcases hcs with rfl | rfl | rfl | rfl | rfl | rfl | rfl | rfl | rfl | rfl | rfl | rfl | rfl | rfl | rfl | rfl | rfl | rfl | rfl
              · obtain rfl := Option.some.inj ho.symm
                clear hdep ho hJ
                try simp only [fill, slotOf, List.size_toArray, List.length_cons, List.length_nil, Nat.reduceAdd, List.getElem?_toArray, List.getElem?_cons_zero, List.getElem?_cons_succ, Option.bind_some, Act.put, List.setIfInBounds_toArray, List.set_cons_zero, List.set_cons_succ] at hK ⊢
                go_simp
                exact hK (.func (.func 41) #[] #[]) _ HJ.out rfl (fun j y h => h) _ rfl
              · obtain rfl := Option.some.inj ho.symm
                have e0 : w9.cell? ⟨wr.heap.size, 0, none⟩ = some (.int .i64 x0) := (hJ.cell (p := ⟨wr.heap.size, 0, none⟩) HXL.out).trans (cell_blk HXA.out rfl)
                have e1 : w9.cell? ⟨wr.heap.size, 1, none⟩ = some (.int .i64 x1) := (hJ.cell (p := ⟨wr.heap.size, 1, none⟩) HXL.out).trans (cell_blk HXA.out rfl)
                clear hdep ho hJ
                try simp only [fill, slotOf, List.size_toArray, List.length_cons, List.length_nil, Nat.reduceAdd, List.getElem?_toArray, List.getElem?_cons_zero, List.getElem?_cons_succ, Option.bind_some, Act.put, List.setIfInBounds_toArray, List.set_cons_zero, List.set_cons_succ] at hK ⊢
                go_simp
                exact hK (.agg #[.int .i64 x0, .int .i64 x1]) _ HJ.out rfl (fun j y h => h) _ rfl
              · obtain rfl := Option.some.inj ho.symm
                have d0 : V 0 = .func (.func 41) #[] #[] := hdep ⟨0, .data⟩ (by simp) rfl
                have d1 : V 1 = .agg #[.int .i64 x0, .int .i64 x1] := hdep ⟨1, .data⟩ (by simp) rfl
                clear hdep ho hJ
                try simp only [fill, slotOf, List.size_toArray, List.length_cons, List.length_nil, Nat.reduceAdd, List.getElem?_toArray, List.getElem?_cons_zero, List.getElem?_cons_succ, Option.bind_some, Act.put, List.setIfInBounds_toArray, List.set_cons_zero, List.set_cons_succ] at hK ⊢
                rw [d0, d1] at hK ⊢
                go_simp
                refine (HRX.out w9 HJ.out).mono ?_
                rintro e w8 ⟨rfl, hb8⟩
                exact hK (.bool true) _ (HJ.out.trans (hb8.mono HJ.out.size)) rfl (FV.mono ((fun _ _ _ => trivial) hb8)) _ rfl
              · obtain rfl := Option.some.inj ho.symm
                have d2 : V 2 = .bool true := hdep ⟨2, .data⟩ (by simp) rfl
                clear hdep ho hJ
                try simp only [fill, slotOf, List.size_toArray, List.length_cons, List.length_nil, Nat.reduceAdd, List.getElem?_toArray, List.getElem?_cons_zero, List.getElem?_cons_succ, Option.bind_some, Act.put, List.setIfInBounds_toArray, List.set_cons_zero, List.set_cons_succ] at hK ⊢
                rw [d2] at hK ⊢
                go_simp
                exact hK (.bool false) _ HJ.out rfl (fun j y h => h) _ rfl
              · obtain rfl := Option.some.inj ho.symm
                have d3 : V 3 = .bool false := hdep ⟨3, .data⟩ (by simp) rfl
                clear hdep ho hJ
                try simp only [fill, slotOf, List.size_toArray, List.length_cons, List.length_nil, Nat.reduceAdd, List.getElem?_toArray, List.getElem?_cons_zero, List.getElem?_cons_succ, Option.bind_some, Act.put, List.setIfInBounds_toArray, List.set_cons_zero, List.set_cons_succ] at hK ⊢
                rw [d3] at hK ⊢
                go_simp
                exact hK (.bool false) _ HJ.out rfl (fun j y h => h) _ rfl
              · obtain rfl := Option.some.inj ho.symm
                have d4 : V 4 = .bool false := hdep ⟨4, .guard⟩ (by simp) rfl
                clear hdep ho hJ
                try simp only [fill, slotOf, List.size_toArray, List.length_cons, List.length_nil, Nat.reduceAdd, List.getElem?_toArray, List.getElem?_cons_zero, List.getElem?_cons_succ, Option.bind_some, Act.put, List.setIfInBounds_toArray, List.set_cons_zero, List.set_cons_succ] at hK ⊢
                rw [d4] at hK ⊢
                go_simp
                exact hK (.int .i64 ((j : Int) + 1)) _ HJ.out rfl (fun j y h => h) _ rfl
              · obtain rfl := Option.some.inj ho.symm
                have d5 : V 5 = .int .i64 ((j : Int) + 1) := hdep ⟨5, .data⟩ (by simp) rfl
                have d4 : V 4 = .bool false := hdep ⟨4, .guard⟩ (by simp) rfl
                have hk9 : decide ((j : Int) + 1 > 0) = true := decide_eq_true (by omega)
                clear hdep ho hJ
                try simp only [fill, slotOf, List.size_toArray, List.length_cons, List.length_nil, Nat.reduceAdd, List.getElem?_toArray, List.getElem?_cons_zero, List.getElem?_cons_succ, Option.bind_some, Act.put, List.setIfInBounds_toArray, List.set_cons_zero, List.set_cons_succ] at hK ⊢
                rw [d5, d4] at hK ⊢
                go_simp
                exact hK (.bool true) _ HJ.out rfl (fun j y h => h) _ rfl
              · obtain rfl := Option.some.inj ho.symm
                have d6 : V 6 = .bool true := hdep ⟨6, .data⟩ (by simp) rfl
                have d4 : V 4 = .bool false := hdep ⟨4, .guard⟩ (by simp) rfl
                clear hdep ho hJ
                try simp only [fill, slotOf, List.size_toArray, List.length_cons, List.length_nil, Nat.reduceAdd, List.getElem?_toArray, List.getElem?_cons_zero, List.getElem?_cons_succ, Option.bind_some, Act.put, List.setIfInBounds_toArray, List.set_cons_zero, List.set_cons_succ] at hK ⊢
                rw [d6, d4] at hK ⊢
                go_simp
                exact hK (.bool true) _ HJ.out rfl (fun j y h => h) _ rfl
              · obtain rfl := Option.some.inj ho.symm
                have d7 : V 7 = .bool true := hdep ⟨7, .guard⟩ (by simp) rfl
                clear hdep ho hJ
                try simp only [fill, slotOf, List.size_toArray, List.length_cons, List.length_nil, Nat.reduceAdd, List.getElem?_toArray, List.getElem?_cons_zero, List.getElem?_cons_succ, Option.bind_some, Act.put, List.setIfInBounds_toArray, List.set_cons_zero, List.set_cons_succ] at hK ⊢
                rw [d7] at hK ⊢
                go_simp
                exact hK (.func (.func 40) #[] #[]) _ HJ.out rfl (fun j y h => h) _ rfl
              · obtain rfl := Option.some.inj ho.symm
                have d7 : V 7 = .bool true := hdep ⟨7, .guard⟩ (by simp) rfl
                clear hdep ho hJ
                try simp only [fill, slotOf, List.size_toArray, List.length_cons, List.length_nil, Nat.reduceAdd, List.getElem?_toArray, List.getElem?_cons_zero, List.getElem?_cons_succ, Option.bind_some, Act.put, List.setIfInBounds_toArray, List.set_cons_zero, List.set_cons_succ] at hK ⊢
                rw [d7] at hK ⊢
                go_simp
                exact hK (.slice (some ⟨sb, so, none⟩) n c) _ HJ.out rfl (fun j y h => h) _ rfl
              · obtain rfl := Option.some.inj ho.symm
                have d7 : V 7 = .bool true := hdep ⟨7, .guard⟩ (by simp) rfl
                clear hdep ho hJ
                try simp only [fill, slotOf, List.size_toArray, List.length_cons, List.length_nil, Nat.reduceAdd, List.getElem?_toArray, List.getElem?_cons_zero, List.getElem?_cons_succ, Option.bind_some, Act.put, List.setIfInBounds_toArray, List.set_cons_zero, List.set_cons_succ] at hK ⊢
                rw [d7] at hK ⊢
                go_simp
                exact hK (.int .i64 ((j : Int) + 1)) _ HJ.out rfl (fun j y h => h) _ rfl
              · obtain rfl := Option.some.inj ho.symm
                have d10 : V 10 = .int .i64 ((j : Int) + 1) := hdep ⟨10, .data⟩ (by simp) rfl
                have d7 : V 7 = .bool true := hdep ⟨7, .guard⟩ (by simp) rfl
                have hw1 : IntKind.i64.wrap (j : Int) = (j : Int) := IntWalk.i64_in _ (by omega)
                have hw2 : IntKind.i64.wrap ((j : Int) + 1 - 1) = (j : Int) := by rw [Int.add_sub_cancel]; exact hw1
                clear hdep ho hJ
                try simp only [fill, slotOf, List.size_toArray, List.length_cons, List.length_nil, Nat.reduceAdd, List.getElem?_toArray, List.getElem?_cons_zero, List.getElem?_cons_succ, Option.bind_some, Act.put, List.setIfInBounds_toArray, List.set_cons_zero, List.set_cons_succ] at hK ⊢
                rw [d10, d7] at hK ⊢
                go_simp
                exact hK (.int .i64 (j : Int)) _ HJ.out rfl (fun j y h => h) _ rfl
              · obtain rfl := Option.some.inj ho.symm
                have d9 : V 9 = .slice (some ⟨sb, so, none⟩) n c := hdep ⟨9, .data⟩ (by simp) rfl
                have d11 : V 11 = .int .i64 (j : Int) := hdep ⟨11, .data⟩ (by simp) rfl
                have d7 : V 7 = .bool true := hdep ⟨7, .guard⟩ (by simp) rfl
                have hjn : j < n := by omega
                have hjn2 : (j : Int) < (n : Int) := by omega
                clear hdep ho hJ
                try simp only [fill, slotOf, List.size_toArray, List.length_cons, List.length_nil, Nat.reduceAdd, List.getElem?_toArray, List.getElem?_cons_zero, List.getElem?_cons_succ, Option.bind_some, Act.put, List.setIfInBounds_toArray, List.set_cons_zero, List.set_cons_succ] at hK ⊢
                rw [d9, d11, d7] at hK ⊢
                go_simp
                exact hK (.pointer (some ⟨sb, so + j * 2, none⟩)) _ HJ.out rfl (fun j y h => h) _ rfl
              · obtain rfl := Option.some.inj ho.symm
                have d12 : V 12 = .pointer (some ⟨sb, so + j * 2, none⟩) := hdep ⟨12, .data⟩ (by simp) rfl
                have d7 : V 7 = .bool true := hdep ⟨7, .guard⟩ (by simp) rfl
                have u0 : w9.cell? ⟨sb, so + j * 2, none⟩ = some (.int .i64 y0) := (hJ.cell (p := ⟨sb, so + j * 2 + 0, none⟩) HSL.out).trans (HSY.out 0 _ rfl)
                have u1 : w9.cell? ⟨sb, so + j * 2 + 1, none⟩ = some (.int .i64 y1) := (hJ.cell (p := ⟨sb, so + j * 2 + 1, none⟩) HSL.out).trans (HSY.out 1 _ rfl)
                clear hdep ho hJ
                try simp only [fill, slotOf, List.size_toArray, List.length_cons, List.length_nil, Nat.reduceAdd, List.getElem?_toArray, List.getElem?_cons_zero, List.getElem?_cons_succ, Option.bind_some, Act.put, List.setIfInBounds_toArray, List.set_cons_zero, List.set_cons_succ] at hK ⊢
                rw [d12, d7] at hK ⊢
                go_simp
                exact hK (.agg #[.int .i64 y0, .int .i64 y1]) _ HJ.out rfl (fun j y h => h) _ rfl
              · obtain rfl := Option.some.inj ho.symm
                have d7 : V 7 = .bool true := hdep ⟨7, .guard⟩ (by simp) rfl
                have e0 : w9.cell? ⟨wr.heap.size, 0, none⟩ = some (.int .i64 x0) := (hJ.cell (p := ⟨wr.heap.size, 0, none⟩) HXL.out).trans (cell_blk HXA.out rfl)
                have e1 : w9.cell? ⟨wr.heap.size, 1, none⟩ = some (.int .i64 x1) := (hJ.cell (p := ⟨wr.heap.size, 1, none⟩) HXL.out).trans (cell_blk HXA.out rfl)
                clear hdep ho hJ
                try simp only [fill, slotOf, List.size_toArray, List.length_cons, List.length_nil, Nat.reduceAdd, List.getElem?_toArray, List.getElem?_cons_zero, List.getElem?_cons_succ, Option.bind_some, Act.put, List.setIfInBounds_toArray, List.set_cons_zero, List.set_cons_succ] at hK ⊢
                rw [d7] at hK ⊢
                go_simp
                exact hK (.agg #[.int .i64 x0, .int .i64 x1]) _ HJ.out rfl (fun j y h => h) _ rfl
              · obtain rfl := Option.some.inj ho.symm
                have d8 : V 8 = .func (.func 40) #[] #[] := hdep ⟨8, .data⟩ (by simp) rfl
                have d13 : V 13 = .agg #[.int .i64 y0, .int .i64 y1] := hdep ⟨13, .data⟩ (by simp) rfl
                have d14 : V 14 = .agg #[.int .i64 x0, .int .i64 x1] := hdep ⟨14, .data⟩ (by simp) rfl
                have d7 : V 7 = .bool true := hdep ⟨7, .guard⟩ (by simp) rfl
                clear hdep ho hJ
                try simp only [fill, slotOf, List.size_toArray, List.length_cons, List.length_nil, Nat.reduceAdd, List.getElem?_toArray, List.getElem?_cons_zero, List.getElem?_cons_succ, Option.bind_some, Act.put, List.setIfInBounds_toArray, List.set_cons_zero, List.set_cons_succ] at hK ⊢
                rw [d8, d13, d14, d7] at hK ⊢
                go_simp
                refine (HCM.out w9).mono ?_
                rintro e w8 ⟨rfl, hb8⟩
                exact hK (.int .i64 zz) _ (HJ.out.trans (hb8.mono HJ.out.size)) rfl (FV.mono ((fun _ _ _ => trivial) hb8)) _ rfl
              · obtain rfl := Option.some.inj ho.symm
                have d15 : V 15 = .int .i64 zz := hdep ⟨15, .data⟩ (by simp) rfl
                have d7 : V 7 = .bool true := hdep ⟨7, .guard⟩ (by simp) rfl
                have hz9 : decide (zz ≥ 0) = true := HZ.out
                clear hdep ho hJ
                try simp only [fill, slotOf, List.size_toArray, List.length_cons, List.length_nil, Nat.reduceAdd, List.getElem?_toArray, List.getElem?_cons_zero, List.getElem?_cons_succ, Option.bind_some, Act.put, List.setIfInBounds_toArray, List.set_cons_zero, List.set_cons_succ] at hK ⊢
                rw [d15, d7] at hK ⊢
                go_simp
                exact hK (.bool true) _ HJ.out rfl (fun j y h => h) _ rfl
              · obtain rfl := Option.some.inj ho.symm
                have d7 : V 7 = .bool true := hdep ⟨7, .data⟩ (by simp) rfl
                have d16 : V 16 = .bool true := hdep ⟨16, .data⟩ (by simp) rfl
                have d4 : V 4 = .bool false := hdep ⟨4, .guard⟩ (by simp) rfl
                clear hdep ho hJ
                try simp only [fill, slotOf, List.size_toArray, List.length_cons, List.length_nil, Nat.reduceAdd, List.getElem?_toArray, List.getElem?_cons_zero, List.getElem?_cons_succ, Option.bind_some, Act.put, List.setIfInBounds_toArray, List.set_cons_zero, List.set_cons_succ] at hK ⊢
                rw [d7, d16, d4] at hK ⊢
                go_simp
                exact hK (.bool true) _ HJ.out rfl (fun j y h => h) _ rfl
              · obtain rfl := Option.some.inj ho.symm
                have d4 : V 4 = .bool false := hdep ⟨4, .data⟩ (by simp) rfl
                have d17 : V 17 = .bool true := hdep ⟨17, .data⟩ (by simp) rfl
                clear hdep ho hJ
                try simp only [fill, slotOf, List.size_toArray, List.length_cons, List.length_nil, Nat.reduceAdd, List.getElem?_toArray, List.getElem?_cons_zero, List.getElem?_cons_succ, Option.bind_some, Act.put, List.setIfInBounds_toArray, List.set_cons_zero, List.set_cons_succ] at hK ⊢
                rw [d4, d17] at hK ⊢
                go_simp
                exact hK (.bool true) _ HJ.out rfl (fun j y h => h) _ rfl
            · intro V w9 hJ hall
              have dL : V 18 = .bool true := hall 18 (by decide)
              have HJ9 := Lib.hid hJ
              clear hall hJ
              simp only [fill, slotOf, List.size_toArray, List.length_cons, List.length_nil, Nat.reduceAdd, List.getElem?_toArray, List.getElem?_cons_zero, List.getElem?_cons_succ, Option.bind_some, Act.put, List.setIfInBounds_toArray, List.set_cons_zero, List.set_cons_succ]
              rw [dL]
              clear dL
              have HBZ := Lib.hid (HAL.out.trans (HJ9.out.mono HAL.out.size))
              go_wp2_with fail
              go_ret
              exact ⟨HNO.out, HBZ.out⟩
          · have HZ := Lib.hid (show decide (zz ≥ 0) = false from decide_eq_false hge)
            have HOK2 := Lib.hid (HOK.out.succ (by rw [← HSE.out, ← HBX.out]) (fun _ => by rw [← HSE.out, ← HRE.out]; show cmp3 y0 x0 < 0; rw [← hzz]; omega))
            clear hbx hzz hge
            refine wp_region_fill (by kernel_rfl) (by kernel_rfl) (by kernel_rfl) (Below (wr.alloc (.cells #[.int .i64 x0, .int .i64 x1] 43)).heap.size (wr.alloc (.cells #[.int .i64 x0, .int .i64 x1] 43))) (FV (fun j_9 => match j_9 with | 0 => some (.func (.func 41) #[] #[]) | 1 => some (.agg #[.int .i64 x0, .int .i64 x1]) | 2 => some (.bool true) | 3 => some (.bool false) | 4 => some (.bool false) | 5 => some (.int .i64 ((j : Int) + 1)) | 6 => some (.bool true) | 7 => some (.bool true) | 8 => some (.func (.func 40) #[] #[]) | 9 => some (.slice (some ⟨sb, so, none⟩) n c) | 10 => some (.int .i64 ((j : Int) + 1)) | 11 => some (.int .i64 (j : Int)) | 12 => some (.pointer (some ⟨sb, so + j * 2, none⟩)) | 13 => some (.agg #[.int .i64 y0, .int .i64 y1]) | 14 => some (.agg #[.int .i64 x0, .int .i64 x1]) | 15 => some (.int .i64 zz) | 16 => some (.bool false) | 17 => some (.bool false) | 18 => some (.bool false) | _ => none) (fun _ _ => True)) (Below.refl _ _).drew ?_ ?_
            · intro i9 o ho V w9 K hJ hdep hK
              have HJ := Lib.hid hJ
              simp only [fill, slotOf, List.size_toArray, List.length_cons, List.length_nil, Nat.reduceAdd, List.getElem?_toArray, List.getElem?_cons_zero, List.getElem?_cons_succ, Option.bind_some, Act.put, List.setIfInBounds_toArray, List.set_cons_zero, List.set_cons_succ] at hK ⊢
              have hin : i9 < 19 := (Array.getElem?_eq_some_iff.1 ho).1
              have hcs : i9 = 0 ∨ i9 = 1 ∨ i9 = 2 ∨ i9 = 3 ∨ i9 = 4 ∨ i9 = 5 ∨ i9 = 6 ∨ i9 = 7 ∨ i9 = 8 ∨ i9 = 9 ∨ i9 = 10 ∨ i9 = 11 ∨ i9 = 12 ∨ i9 = 13 ∨ i9 = 14 ∨ i9 = 15 ∨ i9 = 16 ∨ i9 = 17 ∨ i9 = 18 := by omega
              clear hin
              rcases hcs with rfl | rfl | rfl | rfl | rfl | rfl | rfl | rfl | rfl | rfl | rfl | rfl | rfl | rfl | rfl | rfl | rfl | rfl | rfl
              · obtain rfl := Option.some.inj ho.symm
                clear hdep ho hJ
                try simp only [fill, slotOf, List.size_toArray, List.length_cons, List.length_nil, Nat.reduceAdd, List.getElem?_toArray, List.getElem?_cons_zero, List.getElem?_cons_succ, Option.bind_some, Act.put, List.setIfInBounds_toArray, List.set_cons_zero, List.set_cons_succ] at hK ⊢
                go_simp
                exact hK (.func (.func 41) #[] #[]) _ HJ.out rfl (fun j y h => h) _ rfl
              · obtain rfl := Option.some.inj ho.symm
                have e0 : w9.cell? ⟨wr.heap.size, 0, none⟩ = some (.int .i64 x0) := (hJ.cell (p := ⟨wr.heap.size, 0, none⟩) HXL.out).trans (cell_blk HXA.out rfl)
                have e1 : w9.cell? ⟨wr.heap.size, 1, none⟩ = some (.int .i64 x1) := (hJ.cell (p := ⟨wr.heap.size, 1, none⟩) HXL.out).trans (cell_blk HXA.out rfl)
                clear hdep ho hJ
                try simp only [fill, slotOf, List.size_toArray, List.length_cons, List.length_nil, Nat.reduceAdd, List.getElem?_toArray, List.getElem?_cons_zero, List.getElem?_cons_succ, Option.bind_some, Act.put, List.setIfInBounds_toArray, List.set_cons_zero, List.set_cons_succ] at hK ⊢
                go_simp
                exact hK (.agg #[.int .i64 x0, .int .i64 x1]) _ HJ.out rfl (fun j y h => h) _ rfl
              · obtain rfl := Option.some.inj ho.symm
                have d0 : V 0 = .func (.func 41) #[] #[] := hdep ⟨0, .data⟩ (by simp) rfl
                have d1 : V 1 = .agg #[.int .i64 x0, .int .i64 x1] := hdep ⟨1, .data⟩ (by simp) rfl
                clear hdep ho hJ
                try simp only [fill, slotOf, List.size_toArray, List.length_cons, List.length_nil, Nat.reduceAdd, List.getElem?_toArray, List.getElem?_cons_zero, List.getElem?_cons_succ, Option.bind_some, Act.put, List.setIfInBounds_toArray, List.set_cons_zero, List.set_cons_succ] at hK ⊢
                rw [d0, d1] at hK ⊢
                go_simp
                refine (HRX.out w9 HJ.out).mono ?_
                rintro e w8 ⟨rfl, hb8⟩
                exact hK (.bool true) _ (HJ.out.trans (hb8.mono HJ.out.size)) rfl (FV.mono ((fun _ _ _ => trivial) hb8)) _ rfl
              · obtain rfl := Option.some.inj ho.symm
                have d2 : V 2 = .bool true := hdep ⟨2, .data⟩ (by simp) rfl
                clear hdep ho hJ
                try simp only [fill, slotOf, List.size_toArray, List.length_cons, List.length_nil, Nat.reduceAdd, List.getElem?_toArray, List.getElem?_cons_zero, List.getElem?_cons_succ, Option.bind_some, Act.put, List.setIfInBounds_toArray, List.set_cons_zero, List.set_cons_succ] at hK ⊢
                rw [d2] at hK ⊢
                go_simp
                exact hK (.bool false) _ HJ.out rfl (fun j y h => h) _ rfl
              · obtain rfl := Option.some.inj ho.symm
                have d3 : V 3 = .bool false := hdep ⟨3, .data⟩ (by simp) rfl
                clear hdep ho hJ
                try simp only [fill, slotOf, List.size_toArray, List.length_cons, List.length_nil, Nat.reduceAdd, List.getElem?_toArray, List.getElem?_cons_zero, List.getElem?_cons_succ, Option.bind_some, Act.put, List.setIfInBounds_toArray, List.set_cons_zero, List.set_cons_succ] at hK ⊢
                rw [d3] at hK ⊢
                go_simp
                exact hK (.bool false) _ HJ.out rfl (fun j y h => h) _ rfl
              · obtain rfl := Option.some.inj ho.symm
                have d4 : V 4 = .bool false := hdep ⟨4, .guard⟩ (by simp) rfl
                clear hdep ho hJ
                try simp only [fill, slotOf, List.size_toArray, List.length_cons, List.length_nil, Nat.reduceAdd, List.getElem?_toArray, List.getElem?_cons_zero, List.getElem?_cons_succ, Option.bind_some, Act.put, List.setIfInBounds_toArray, List.set_cons_zero, List.set_cons_succ] at hK ⊢
                rw [d4] at hK ⊢
                go_simp
                exact hK (.int .i64 ((j : Int) + 1)) _ HJ.out rfl (fun j y h => h) _ rfl
              · obtain rfl := Option.some.inj ho.symm
                have d5 : V 5 = .int .i64 ((j : Int) + 1) := hdep ⟨5, .data⟩ (by simp) rfl
                have d4 : V 4 = .bool false := hdep ⟨4, .guard⟩ (by simp) rfl
                have hk9 : decide ((j : Int) + 1 > 0) = true := decide_eq_true (by omega)
                clear hdep ho hJ
                try simp only [fill, slotOf, List.size_toArray, List.length_cons, List.length_nil, Nat.reduceAdd, List.getElem?_toArray, List.getElem?_cons_zero, List.getElem?_cons_succ, Option.bind_some, Act.put, List.setIfInBounds_toArray, List.set_cons_zero, List.set_cons_succ] at hK ⊢
                rw [d5, d4] at hK ⊢
                go_simp
                exact hK (.bool true) _ HJ.out rfl (fun j y h => h) _ rfl
              · obtain rfl := Option.some.inj ho.symm
                have d6 : V 6 = .bool true := hdep ⟨6, .data⟩ (by simp) rfl
                have d4 : V 4 = .bool false := hdep ⟨4, .guard⟩ (by simp) rfl
                clear hdep ho hJ
                try simp only [fill, slotOf, List.size_toArray, List.length_cons, List.length_nil, Nat.reduceAdd, List.getElem?_toArray, List.getElem?_cons_zero, List.getElem?_cons_succ, Option.bind_some, Act.put, List.setIfInBounds_toArray, List.set_cons_zero, List.set_cons_succ] at hK ⊢
                rw [d6, d4] at hK ⊢
                go_simp
                exact hK (.bool true) _ HJ.out rfl (fun j y h => h) _ rfl
              · obtain rfl := Option.some.inj ho.symm
                have d7 : V 7 = .bool true := hdep ⟨7, .guard⟩ (by simp) rfl
                clear hdep ho hJ
                try simp only [fill, slotOf, List.size_toArray, List.length_cons, List.length_nil, Nat.reduceAdd, List.getElem?_toArray, List.getElem?_cons_zero, List.getElem?_cons_succ, Option.bind_some, Act.put, List.setIfInBounds_toArray, List.set_cons_zero, List.set_cons_succ] at hK ⊢
                rw [d7] at hK ⊢
                go_simp
                exact hK (.func (.func 40) #[] #[]) _ HJ.out rfl (fun j y h => h) _ rfl
              · obtain rfl := Option.some.inj ho.symm
                have d7 : V 7 = .bool true := hdep ⟨7, .guard⟩ (by simp) rfl
                clear hdep ho hJ
                try simp only [fill, slotOf, List.size_toArray, List.length_cons, List.length_nil, Nat.reduceAdd, List.getElem?_toArray, List.getElem?_cons_zero, List.getElem?_cons_succ, Option.bind_some, Act.put, List.setIfInBounds_toArray, List.set_cons_zero, List.set_cons_succ] at hK ⊢
                rw [d7] at hK ⊢
                go_simp
                exact hK (.slice (some ⟨sb, so, none⟩) n c) _ HJ.out rfl (fun j y h => h) _ rfl
              · obtain rfl := Option.some.inj ho.symm
                have d7 : V 7 = .bool true := hdep ⟨7, .guard⟩ (by simp) rfl
                clear hdep ho hJ
                try simp only [fill, slotOf, List.size_toArray, List.length_cons, List.length_nil, Nat.reduceAdd, List.getElem?_toArray, List.getElem?_cons_zero, List.getElem?_cons_succ, Option.bind_some, Act.put, List.setIfInBounds_toArray, List.set_cons_zero, List.set_cons_succ] at hK ⊢
                rw [d7] at hK ⊢
                go_simp
                exact hK (.int .i64 ((j : Int) + 1)) _ HJ.out rfl (fun j y h => h) _ rfl
              · obtain rfl := Option.some.inj ho.symm
                have d10 : V 10 = .int .i64 ((j : Int) + 1) := hdep ⟨10, .data⟩ (by simp) rfl
                have d7 : V 7 = .bool true := hdep ⟨7, .guard⟩ (by simp) rfl
                have hw1 : IntKind.i64.wrap (j : Int) = (j : Int) := IntWalk.i64_in _ (by omega)
                have hw2 : IntKind.i64.wrap ((j : Int) + 1 - 1) = (j : Int) := by rw [Int.add_sub_cancel]; exact hw1
                clear hdep ho hJ
                try simp only [fill, slotOf, List.size_toArray, List.length_cons, List.length_nil, Nat.reduceAdd, List.getElem?_toArray, List.getElem?_cons_zero, List.getElem?_cons_succ, Option.bind_some, Act.put, List.setIfInBounds_toArray, List.set_cons_zero, List.set_cons_succ] at hK ⊢
                rw [d10, d7] at hK ⊢
                go_simp
                exact hK (.int .i64 (j : Int)) _ HJ.out rfl (fun j y h => h) _ rfl
              · obtain rfl := Option.some.inj ho.symm
                have d9 : V 9 = .slice (some ⟨sb, so, none⟩) n c := hdep ⟨9, .data⟩ (by simp) rfl
                have d11 : V 11 = .int .i64 (j : Int) := hdep ⟨11, .data⟩ (by simp) rfl
                have d7 : V 7 = .bool true := hdep ⟨7, .guard⟩ (by simp) rfl
                have hjn : j < n := by omega
                have hjn2 : (j : Int) < (n : Int) := by omega
                clear hdep ho hJ
                try simp only [fill, slotOf, List.size_toArray, List.length_cons, List.length_nil, Nat.reduceAdd, List.getElem?_toArray, List.getElem?_cons_zero, List.getElem?_cons_succ, Option.bind_some, Act.put, List.setIfInBounds_toArray, List.set_cons_zero, List.set_cons_succ] at hK ⊢
                rw [d9, d11, d7] at hK ⊢
                go_simp
                exact hK (.pointer (some ⟨sb, so + j * 2, none⟩)) _ HJ.out rfl (fun j y h => h) _ rfl
              · obtain rfl := Option.some.inj ho.symm
                have d12 : V 12 = .pointer (some ⟨sb, so + j * 2, none⟩) := hdep ⟨12, .data⟩ (by simp) rfl
                have d7 : V 7 = .bool true := hdep ⟨7, .guard⟩ (by simp) rfl
                have u0 : w9.cell? ⟨sb, so + j * 2, none⟩ = some (.int .i64 y0) := (hJ.cell (p := ⟨sb, so + j * 2 + 0, none⟩) HSL.out).trans (HSY.out 0 _ rfl)
                have u1 : w9.cell? ⟨sb, so + j * 2 + 1, none⟩ = some (.int .i64 y1) := (hJ.cell (p := ⟨sb, so + j * 2 + 1, none⟩) HSL.out).trans (HSY.out 1 _ rfl)
                clear hdep ho hJ
                try simp only [fill, slotOf, List.size_toArray, List.length_cons, List.length_nil, Nat.reduceAdd, List.getElem?_toArray, List.getElem?_cons_zero, List.getElem?_cons_succ, Option.bind_some, Act.put, List.setIfInBounds_toArray, List.set_cons_zero, List.set_cons_succ] at hK ⊢
                rw [d12, d7] at hK ⊢
                go_simp
                exact hK (.agg #[.int .i64 y0, .int .i64 y1]) _ HJ.out rfl (fun j y h => h) _ rfl
              · obtain rfl := Option.some.inj ho.symm
                have d7 : V 7 = .bool true := hdep ⟨7, .guard⟩ (by simp) rfl
                have e0 : w9.cell? ⟨wr.heap.size, 0, none⟩ = some (.int .i64 x0) := (hJ.cell (p := ⟨wr.heap.size, 0, none⟩) HXL.out).trans (cell_blk HXA.out rfl)
                have e1 : w9.cell? ⟨wr.heap.size, 1, none⟩ = some (.int .i64 x1) := (hJ.cell (p := ⟨wr.heap.size, 1, none⟩) HXL.out).trans (cell_blk HXA.out rfl)
                clear hdep ho hJ
                try simp only [fill, slotOf, List.size_toArray, List.length_cons, List.length_nil, Nat.reduceAdd, List.getElem?_toArray, List.getElem?_cons_zero, List.getElem?_cons_succ, Option.bind_some, Act.put, List.setIfInBounds_toArray, List.set_cons_zero, List.set_cons_succ] at hK ⊢
                rw [d7] at hK ⊢
                go_simp
                exact hK (.agg #[.int .i64 x0, .int .i64 x1]) _ HJ.out rfl (fun j y h => h) _ rfl
              · obtain rfl := Option.some.inj ho.symm
                have d8 : V 8 = .func (.func 40) #[] #[] := hdep ⟨8, .data⟩ (by simp) rfl
                have d13 : V 13 = .agg #[.int .i64 y0, .int .i64 y1] := hdep ⟨13, .data⟩ (by simp) rfl
                have d14 : V 14 = .agg #[.int .i64 x0, .int .i64 x1] := hdep ⟨14, .data⟩ (by simp) rfl
                have d7 : V 7 = .bool true := hdep ⟨7, .guard⟩ (by simp) rfl
                clear hdep ho hJ
                try simp only [fill, slotOf, List.size_toArray, List.length_cons, List.length_nil, Nat.reduceAdd, List.getElem?_toArray, List.getElem?_cons_zero, List.getElem?_cons_succ, Option.bind_some, Act.put, List.setIfInBounds_toArray, List.set_cons_zero, List.set_cons_succ] at hK ⊢
                rw [d8, d13, d14, d7] at hK ⊢
                go_simp
                refine (HCM.out w9).mono ?_
                rintro e w8 ⟨rfl, hb8⟩
                exact hK (.int .i64 zz) _ (HJ.out.trans (hb8.mono HJ.out.size)) rfl (FV.mono ((fun _ _ _ => trivial) hb8)) _ rfl
              · obtain rfl := Option.some.inj ho.symm
                have d15 : V 15 = .int .i64 zz := hdep ⟨15, .data⟩ (by simp) rfl
                have d7 : V 7 = .bool true := hdep ⟨7, .guard⟩ (by simp) rfl
                have hz9 : decide (zz ≥ 0) = false := HZ.out
                clear hdep ho hJ
                try simp only [fill, slotOf, List.size_toArray, List.length_cons, List.length_nil, Nat.reduceAdd, List.getElem?_toArray, List.getElem?_cons_zero, List.getElem?_cons_succ, Option.bind_some, Act.put, List.setIfInBounds_toArray, List.set_cons_zero, List.set_cons_succ] at hK ⊢
                rw [d15, d7] at hK ⊢
                go_simp
                exact hK (.bool false) _ HJ.out rfl (fun j y h => h) _ rfl
              · obtain rfl := Option.some.inj ho.symm
                have d7 : V 7 = .bool true := hdep ⟨7, .data⟩ (by simp) rfl
                have d16 : V 16 = .bool false := hdep ⟨16, .data⟩ (by simp) rfl
                have d4 : V 4 = .bool false := hdep ⟨4, .guard⟩ (by simp) rfl
                clear hdep ho hJ
                try simp only [fill, slotOf, List.size_toArray, List.length_cons, List.length_nil, Nat.reduceAdd, List.getElem?_toArray, List.getElem?_cons_zero, List.getElem?_cons_succ, Option.bind_some, Act.put, List.setIfInBounds_toArray, List.set_cons_zero, List.set_cons_succ] at hK ⊢
                rw [d7, d16, d4] at hK ⊢
                go_simp
                exact hK (.bool false) _ HJ.out rfl (fun j y h => h) _ rfl
              · obtain rfl := Option.some.inj ho.symm
                have d4 : V 4 = .bool false := hdep ⟨4, .data⟩ (by simp) rfl
                have d17 : V 17 = .bool false := hdep ⟨17, .data⟩ (by simp) rfl
                clear hdep ho hJ
                try simp only [fill, slotOf, List.size_toArray, List.length_cons, List.length_nil, Nat.reduceAdd, List.getElem?_toArray, List.getElem?_cons_zero, List.getElem?_cons_succ, Option.bind_some, Act.put, List.setIfInBounds_toArray, List.set_cons_zero, List.set_cons_succ] at hK ⊢
                rw [d4, d17] at hK ⊢
                go_simp
                exact hK (.bool false) _ HJ.out rfl (fun j y h => h) _ rfl
            · intro V w9 hJ hall
              have dL : V 18 = .bool false := hall 18 (by decide)
              have HJ9 := Lib.hid hJ
              clear hall hJ
              simp only [fill, slotOf, List.size_toArray, List.length_cons, List.length_nil, Nat.reduceAdd, List.getElem?_toArray, List.getElem?_cons_zero, List.getElem?_cons_succ, Option.bind_some, Act.put, List.setIfInBounds_toArray, List.set_cons_zero, List.set_cons_succ]
              rw [dL]
              clear dL
              have HBZ := Lib.hid (HAL.out.trans (HJ9.out.mono HAL.out.size))
              go_wp2_with fail
              go_roundw
              case rel => exact ⟨j + 1 + 1, by omega, by go_num, HOK2, HBZ⟩
              case measure => simp [intOf]; omega
    · obtain rfl : k = n := by omega
      have HY := Lib.hid (RisIs.yes HOK.out)
      clear hkn
      go_wp2_with fail
      go_ret
      exact ⟨HY.out, HB.out⟩

set_option maxRecDepth 100000 in
set_option maxHeartbeats 8000000 in
theorem rising_anyO {w : World} {a : Option Addr} {n c : Nat} {l : List (Int × Int × Int)} (h : VecAt OwnS w a n c l) {mb : Nat} (p : (Int × Int × Int) → Bool)
    (hR : ∀ (W : World) (z : (Int × Int × Int)), z ∈ l → Below w.heap.size w W → OwnS.ok W z → Calls Tryz.prog 44 #[.agg #[.int .i64 z.1, .int .i64 z.2.1, .int .i64 z.2.2]] W fun e w' => e = .returned (.bool (p z)) ∧ Below W.heap.size W w') :
    Calls Tryz.prog 42 #[.slice a n c, .func (.func 43) #[] #[], .func (.func 44) #[] #[]] w fun e w' => RisIs p (fun a b => cmp3 a.1 b.1) OwnS.z l n e ∧ Below w.heap.size w w' := by
  have hcap := h.cap
  have hcm := h.capm
  have HH := Lib.hid h
  have HL := Lib.hid h.len
  have HR := Lib.hid hR
  clear h hR
  go_enter Tryz.func42, Tryz.ntmps42
  go_wp2_with fail
  go_loopw [7, 8, 11] (fun _ _ s11 wr => ∃ k : Nat, k ≤ n ∧ s11 = .int .i64 (k : Int) ∧ Hid (RisOk p (fun a b => cmp3 a.1 b.1) OwnS.z l k) ∧ Hid (Below w.heap.size w wr)) (fun _ _ s11 _ => n - (intOf s11).toNat)
  case atStart => exact ⟨0, by omega, rfl, Lib.hid (fun j hj => by omega), Lib.hid (Below.refl _ _)⟩
  case round =>
    obtain ⟨k, hk, rfl, HOK, HB⟩ := hrel
    rename World => wr
    by_cases hkn : k < n
    · have hki : (k : Int) < (n : Int) := by omega
      obtain ⟨sb, so, rfl, hsl, hok, hsc9⟩ := (HH.out.kept HB.out).get hkn
      obtain ⟨s, hse⟩ : ∃ s, s = l.getD k OwnS.z := ⟨_, rfl⟩
      obtain ⟨r, hre⟩ : ∃ r, r = l.getD (k - 1) OwnS.z := ⟨_, rfl⟩
      rw [← hse] at hsc9 hok
      have HSE := Lib.hid hse
      have HRE := Lib.hid hre
      have HSL := Lib.hid hsl
      have HSY := Lib.hid (show ∀ j u, (OwnS.f r)[j]? = some u → wr.cell? ⟨sb, so + (k - 1) * 3 + j, none⟩ = some u from by
        obtain ⟨sb2, so2, e2, _, _, hy⟩ := (HH.out.kept HB.out).get (show k - 1 < n by omega)
        cases e2
        rw [← hre] at hy
        exact hy)
      obtain ⟨x0, x1, x2⟩ := s
      obtain ⟨y0, y1, y2⟩ := r
      have d0 : wr.cell? ⟨sb, so + k * 3, none⟩ = some (.int .i64 x0) := hsc9 0 _ rfl
      have d1 : wr.cell? ⟨sb, so + k * 3 + 1, none⟩ = some (.int .i64 x1) := hsc9 1 _ rfl
      have d2 : wr.cell? ⟨sb, so + k * 3 + 2, none⟩ = some (.int .i64 x2) := hsc9 2 _ rfl
      have HXA := Lib.hid (heap_alloc_new wr (.cells #[.int .i64 x0, .int .i64 x1, .int .i64 x2] 45))
      have HXL := Lib.hid ((Array.getElem?_eq_some_iff.1 (heap_alloc_new wr (.cells #[.int .i64 x0, .int .i64 x1, .int .i64 x2] 45))).1)
      have HAL := Lib.hid (show Below w.heap.size w (wr.alloc (.cells #[.int .i64 x0, .int .i64 x1, .int .i64 x2] 45)) from HB.out.alloc HB.out.size _)
      obtain ⟨bx, hbx⟩ : ∃ bx, bx = p (x0, x1, x2) := ⟨_, rfl⟩
      have HBX := Lib.hid hbx
      have HSLA := Lib.hid (show sb < (wr.alloc (.cells #[.int .i64 x0, .int .i64 x1, .int .i64 x2] 45)).heap.size from Nat.lt_of_lt_of_le hsl ((Below.refl wr.heap.size wr).alloc (Nat.le_refl _) _).size)
      have HSYA := Lib.hid (show ∀ j u, (OwnS.f (y0, y1, y2))[j]? = some u → (wr.alloc (.cells #[.int .i64 x0, .int .i64 x1, .int .i64 x2] 45)).cell? ⟨sb, so + (k - 1) * 3 + j, none⟩ = some u from fun j u hu => (((Below.refl wr.heap.size wr).alloc (Nat.le_refl _) (.cells #[.int .i64 x0, .int .i64 x1, .int .i64 x2] 45)).cell (p := ⟨sb, so + (k - 1) * 3 + j, none⟩) hsl).trans (HSY.out j u hu))
      have HOKX := Lib.hid (OwnS.mono ((Below.refl wr.heap.size wr).alloc (Nat.le_refl _) (.cells #[.int .i64 x0, .int .i64 x1, .int .i64 x2] 45)) hok)
      have HRX := Lib.hid (show ∀ W9, Below (wr.alloc (.cells #[.int .i64 x0, .int .i64 x1, .int .i64 x2] 45)).heap.size (wr.alloc (.cells #[.int .i64 x0, .int .i64 x1, .int .i64 x2] 45)) W9 → Calls Tryz.prog 44 #[.agg #[.int .i64 x0, .int .i64 x1, .int .i64 x2]] W9 fun e w' => e = .returned (.bool bx) ∧ Below W9.heap.size W9 w' from fun W9 hB => by
        rw [hbx]
        exact HR.out W9 (x0, x1, x2) (by rw [hse]; exact vec_mem (S := OwnS) (by rw [HL.out]; exact hkn)) (HAL.out.trans (hB.mono HAL.out.size)) (OwnS.mono hB HOKX.out))
      clear hsc9 hse hre hsl hok HSL HSY
      have HSL := HSLA
      have HSY := HSYA
      clear HSLA HSYA
      go_wp2_with fail
      cases bx with
      | false =>
        have HNO := Lib.hid (RisIs.no (p := p) (cm := fun a b => cmp3 a.1 b.1) (d := OwnS.z) (l := l) hkn (fun g => by have h1 := g.1; rw [← HSE.out, ← HBX.out] at h1; cases h1))
        clear hbx
        refine wp_region_fill (by kernel_rfl) (by kernel_rfl) (by kernel_rfl) (Below (wr.alloc (.cells #[.int .i64 x0, .int .i64 x1, .int .i64 x2] 45)).heap.size (wr.alloc (.cells #[.int .i64 x0, .int .i64 x1, .int .i64 x2] 45))) (FV (fun j_9 => match j_9 with | 0 => some (.func (.func 44) #[] #[]) | 1 => some (.agg #[.int .i64 x0, .int .i64 x1, .int .i64 x2]) | 2 => some (.bool false) | 3 => some (.bool true) | 4 => some (.bool true) | 5 => some (undef) | 6 => some (undef) | 7 => some (undef) | 8 => some (undef) | 9 => some (undef) | 10 => some (undef) | 11 => some (undef) | 12 => some (undef) | 13 => some (undef) | 14 => some (undef) | 15 => some (undef) | 16 => some (undef) | 17 => some (undef) | 18 => some (.bool true) | _ => none) (fun _ _ => True)) (Below.refl _ _).drew ?_ ?_
        · intro i9 o ho V w9 K hJ hdep hK
          have HJ := Lib.hid hJ
          simp only [fill, slotOf, List.size_toArray, List.length_cons, List.length_nil, Nat.reduceAdd, List.getElem?_toArray, List.getElem?_cons_zero, List.getElem?_cons_succ, Option.bind_some, Act.put, List.setIfInBounds_toArray, List.set_cons_zero, List.set_cons_succ] at hK ⊢
          have hin : i9 < 19 := (Array.getElem?_eq_some_iff.1 ho).1
          have hcs : i9 = 0 ∨ i9 = 1 ∨ i9 = 2 ∨ i9 = 3 ∨ i9 = 4 ∨ i9 = 5 ∨ i9 = 6 ∨ i9 = 7 ∨ i9 = 8 ∨ i9 = 9 ∨ i9 = 10 ∨ i9 = 11 ∨ i9 = 12 ∨ i9 = 13 ∨ i9 = 14 ∨ i9 = 15 ∨ i9 = 16 ∨ i9 = 17 ∨ i9 = 18 := by omega
          clear hin
          rcases hcs with rfl | rfl | rfl | rfl | rfl | rfl | rfl | rfl | rfl | rfl | rfl | rfl | rfl | rfl | rfl | rfl | rfl | rfl | rfl
          · obtain rfl := Option.some.inj ho.symm
            clear hdep ho hJ
            try simp only [fill, slotOf, List.size_toArray, List.length_cons, List.length_nil, Nat.reduceAdd, List.getElem?_toArray, List.getElem?_cons_zero, List.getElem?_cons_succ, Option.bind_some, Act.put, List.setIfInBounds_toArray, List.set_cons_zero, List.set_cons_succ] at hK ⊢
            go_simp
            exact hK (.func (.func 44) #[] #[]) _ HJ.out rfl (fun j y h => h) _ rfl
          · obtain rfl := Option.some.inj ho.symm
            have e0 : w9.cell? ⟨wr.heap.size, 0, none⟩ = some (.int .i64 x0) := (hJ.cell (p := ⟨wr.heap.size, 0, none⟩) HXL.out).trans (cell_blk HXA.out rfl)
            have e1 : w9.cell? ⟨wr.heap.size, 1, none⟩ = some (.int .i64 x1) := (hJ.cell (p := ⟨wr.heap.size, 1, none⟩) HXL.out).trans (cell_blk HXA.out rfl)
            have e2 : w9.cell? ⟨wr.heap.size, 2, none⟩ = some (.int .i64 x2) := (hJ.cell (p := ⟨wr.heap.size, 2, none⟩) HXL.out).trans (cell_blk HXA.out rfl)
            clear hdep ho hJ
            try simp only [fill, slotOf, List.size_toArray, List.length_cons, List.length_nil, Nat.reduceAdd, List.getElem?_toArray, List.getElem?_cons_zero, List.getElem?_cons_succ, Option.bind_some, Act.put, List.setIfInBounds_toArray, List.set_cons_zero, List.set_cons_succ] at hK ⊢
            go_simp
            exact hK (.agg #[.int .i64 x0, .int .i64 x1, .int .i64 x2]) _ HJ.out rfl (fun j y h => h) _ rfl
          · obtain rfl := Option.some.inj ho.symm
            have d0 : V 0 = .func (.func 44) #[] #[] := hdep ⟨0, .data⟩ (by simp) rfl
            have d1 : V 1 = .agg #[.int .i64 x0, .int .i64 x1, .int .i64 x2] := hdep ⟨1, .data⟩ (by simp) rfl
            clear hdep ho hJ
            try simp only [fill, slotOf, List.size_toArray, List.length_cons, List.length_nil, Nat.reduceAdd, List.getElem?_toArray, List.getElem?_cons_zero, List.getElem?_cons_succ, Option.bind_some, Act.put, List.setIfInBounds_toArray, List.set_cons_zero, List.set_cons_succ] at hK ⊢
            rw [d0, d1] at hK ⊢
            go_simp
            refine (HRX.out w9 HJ.out).mono ?_
            rintro e w8 ⟨rfl, hb8⟩
            exact hK (.bool false) _ (HJ.out.trans (hb8.mono HJ.out.size)) rfl (FV.mono ((fun _ _ _ => trivial) hb8)) _ rfl
          · obtain rfl := Option.some.inj ho.symm
            have d2 : V 2 = .bool false := hdep ⟨2, .data⟩ (by simp) rfl
            clear hdep ho hJ
            try simp only [fill, slotOf, List.size_toArray, List.length_cons, List.length_nil, Nat.reduceAdd, List.getElem?_toArray, List.getElem?_cons_zero, List.getElem?_cons_succ, Option.bind_some, Act.put, List.setIfInBounds_toArray, List.set_cons_zero, List.set_cons_succ] at hK ⊢
            rw [d2] at hK ⊢
            go_simp
            exact hK (.bool true) _ HJ.out rfl (fun j y h => h) _ rfl
          · obtain rfl := Option.some.inj ho.symm
            have d3 : V 3 = .bool true := hdep ⟨3, .data⟩ (by simp) rfl
            clear hdep ho hJ
            try simp only [fill, slotOf, List.size_toArray, List.length_cons, List.length_nil, Nat.reduceAdd, List.getElem?_toArray, List.getElem?_cons_zero, List.getElem?_cons_succ, Option.bind_some, Act.put, List.setIfInBounds_toArray, List.set_cons_zero, List.set_cons_succ] at hK ⊢
            rw [d3] at hK ⊢
            go_simp
            exact hK (.bool true) _ HJ.out rfl (fun j y h => h) _ rfl
          · obtain rfl := Option.some.inj ho.symm
            have d4 : V 4 = .bool true := hdep ⟨4, .guard⟩ (by simp) rfl
            clear hdep ho hJ
            try simp only [fill, slotOf, List.size_toArray, List.length_cons, List.length_nil, Nat.reduceAdd, List.getElem?_toArray, List.getElem?_cons_zero, List.getElem?_cons_succ, Option.bind_some, Act.put, List.setIfInBounds_toArray, List.set_cons_zero, List.set_cons_succ] at hK ⊢
            rw [d4] at hK ⊢
            go_simp
            exact hK (undef) _ HJ.out rfl (fun j y h => h) _ rfl
          · obtain rfl := Option.some.inj ho.symm
            have d4 : V 4 = .bool true := hdep ⟨4, .guard⟩ (by simp) rfl
            clear hdep ho hJ
            try simp only [fill, slotOf, List.size_toArray, List.length_cons, List.length_nil, Nat.reduceAdd, List.getElem?_toArray, List.getElem?_cons_zero, List.getElem?_cons_succ, Option.bind_some, Act.put, List.setIfInBounds_toArray, List.set_cons_zero, List.set_cons_succ] at hK ⊢
            rw [d4] at hK ⊢
            go_simp
            exact hK (undef) _ HJ.out rfl (fun j y h => h) _ rfl
          · obtain rfl := Option.some.inj ho.symm
            have d4 : V 4 = .bool true := hdep ⟨4, .guard⟩ (by simp) rfl
            clear hdep ho hJ
            try simp only [fill, slotOf, List.size_toArray, List.length_cons, List.length_nil, Nat.reduceAdd, List.getElem?_toArray, List.getElem?_cons_zero, List.getElem?_cons_succ, Option.bind_some, Act.put, List.setIfInBounds_toArray, List.set_cons_zero, List.set_cons_succ] at hK ⊢
            rw [d4] at hK ⊢
            go_simp
            exact hK (undef) _ HJ.out rfl (fun j y h => h) _ rfl
          · obtain rfl := Option.some.inj ho.symm
            have d7 : V 7 = undef := hdep ⟨7, .guard⟩ (by simp) rfl
            clear hdep ho hJ
            try simp only [fill, slotOf, List.size_toArray, List.length_cons, List.length_nil, Nat.reduceAdd, List.getElem?_toArray, List.getElem?_cons_zero, List.getElem?_cons_succ, Option.bind_some, Act.put, List.setIfInBounds_toArray, List.set_cons_zero, List.set_cons_succ] at hK ⊢
            rw [d7] at hK ⊢
            go_simp
            exact hK (undef) _ HJ.out rfl (fun j y h => h) _ rfl
          · obtain rfl := Option.some.inj ho.symm
            have d7 : V 7 = undef := hdep ⟨7, .guard⟩ (by simp) rfl
            clear hdep ho hJ
            try simp only [fill, slotOf, List.size_toArray, List.length_cons, List.length_nil, Nat.reduceAdd, List.getElem?_toArray, List.getElem?_cons_zero, List.getElem?_cons_succ, Option.bind_some, Act.put, List.setIfInBounds_toArray, List.set_cons_zero, List.set_cons_succ] at hK ⊢
            rw [d7] at hK ⊢
            go_simp
            exact hK (undef) _ HJ.out rfl (fun j y h => h) _ rfl
          · obtain rfl := Option.some.inj ho.symm
            have d7 : V 7 = undef := hdep ⟨7, .guard⟩ (by simp) rfl
            clear hdep ho hJ
            try simp only [fill, slotOf, List.size_toArray, List.length_cons, List.length_nil, Nat.reduceAdd, List.getElem?_toArray, List.getElem?_cons_zero, List.getElem?_cons_succ, Option.bind_some, Act.put, List.setIfInBounds_toArray, List.set_cons_zero, List.set_cons_succ] at hK ⊢
            rw [d7] at hK ⊢
            go_simp
            exact hK (undef) _ HJ.out rfl (fun j y h => h) _ rfl
          · obtain rfl := Option.some.inj ho.symm
            have d7 : V 7 = undef := hdep ⟨7, .guard⟩ (by simp) rfl
            clear hdep ho hJ
            try simp only [fill, slotOf, List.size_toArray, List.length_cons, List.length_nil, Nat.reduceAdd, List.getElem?_toArray, List.getElem?_cons_zero, List.getElem?_cons_succ, Option.bind_some, Act.put, List.setIfInBounds_toArray, List.set_cons_zero, List.set_cons_succ] at hK ⊢
            rw [d7] at hK ⊢
            go_simp
            exact hK (undef) _ HJ.out rfl (fun j y h => h) _ rfl
          · obtain rfl := Option.some.inj ho.symm
            have d7 : V 7 = undef := hdep ⟨7, .guard⟩ (by simp) rfl
            clear hdep ho hJ
            try simp only [fill, slotOf, List.size_toArray, List.length_cons, List.length_nil, Nat.reduceAdd, List.getElem?_toArray, List.getElem?_cons_zero, List.getElem?_cons_succ, Option.bind_some, Act.put, List.setIfInBounds_toArray, List.set_cons_zero, List.set_cons_succ] at hK ⊢
            rw [d7] at hK ⊢
            go_simp
            exact hK (undef) _ HJ.out rfl (fun j y h => h) _ rfl
          · obtain rfl := Option.some.inj ho.symm
            have d7 : V 7 = undef := hdep ⟨7, .guard⟩ (by simp) rfl
            clear hdep ho hJ
            try simp only [fill, slotOf, List.size_toArray, List.length_cons, List.length_nil, Nat.reduceAdd, List.getElem?_toArray, List.getElem?_cons_zero, List.getElem?_cons_succ, Option.bind_some, Act.put, List.setIfInBounds_toArray, List.set_cons_zero, List.set_cons_succ] at hK ⊢
            rw [d7] at hK ⊢
            go_simp
            exact hK (undef) _ HJ.out rfl (fun j y h => h) _ rfl
          · obtain rfl := Option.some.inj ho.symm
            have d7 : V 7 = undef := hdep ⟨7, .guard⟩ (by simp) rfl
            clear hdep ho hJ
            try simp only [fill, slotOf, List.size_toArray, List.length_cons, List.length_nil, Nat.reduceAdd, List.getElem?_toArray, List.getElem?_cons_zero, List.getElem?_cons_succ, Option.bind_some, Act.put, List.setIfInBounds_toArray, List.set_cons_zero, List.set_cons_succ] at hK ⊢
            rw [d7] at hK ⊢
            go_simp
            exact hK (undef) _ HJ.out rfl (fun j y h => h) _ rfl
          · obtain rfl := Option.some.inj ho.symm
            have d7 : V 7 = undef := hdep ⟨7, .guard⟩ (by simp) rfl
            clear hdep ho hJ
            try simp only [fill, slotOf, List.size_toArray, List.length_cons, List.length_nil, Nat.reduceAdd, List.getElem?_toArray, List.getElem?_cons_zero, List.getElem?_cons_succ, Option.bind_some, Act.put, List.setIfInBounds_toArray, List.set_cons_zero, List.set_cons_succ] at hK ⊢
            rw [d7] at hK ⊢
            go_simp
            exact hK (undef) _ HJ.out rfl (fun j y h => h) _ rfl
          · obtain rfl := Option.some.inj ho.symm
            have d7 : V 7 = undef := hdep ⟨7, .guard⟩ (by simp) rfl
            clear hdep ho hJ
            try simp only [fill, slotOf, List.size_toArray, List.length_cons, List.length_nil, Nat.reduceAdd, List.getElem?_toArray, List.getElem?_cons_zero, List.getElem?_cons_succ, Option.bind_some, Act.put, List.setIfInBounds_toArray, List.set_cons_zero, List.set_cons_succ] at hK ⊢
            rw [d7] at hK ⊢
            go_simp
            exact hK (undef) _ HJ.out rfl (fun j y h => h) _ rfl
          · obtain rfl := Option.some.inj ho.symm
            have d4 : V 4 = .bool true := hdep ⟨4, .guard⟩ (by simp) rfl
            clear hdep ho hJ
            try simp only [fill, slotOf, List.size_toArray, List.length_cons, List.length_nil, Nat.reduceAdd, List.getElem?_toArray, List.getElem?_cons_zero, List.getElem?_cons_succ, Option.bind_some, Act.put, List.setIfInBounds_toArray, List.set_cons_zero, List.set_cons_succ] at hK ⊢
            rw [d4] at hK ⊢
            go_simp
            exact hK (undef) _ HJ.out rfl (fun j y h => h) _ rfl
          · obtain rfl := Option.some.inj ho.symm
            have d4 : V 4 = .bool true := hdep ⟨4, .data⟩ (by simp) rfl
            clear hdep ho hJ
            try simp only [fill, slotOf, List.size_toArray, List.length_cons, List.length_nil, Nat.reduceAdd, List.getElem?_toArray, List.getElem?_cons_zero, List.getElem?_cons_succ, Option.bind_some, Act.put, List.setIfInBounds_toArray, List.set_cons_zero, List.set_cons_succ] at hK ⊢
            rw [d4] at hK ⊢
            go_simp
            exact hK (.bool true) _ HJ.out rfl (fun j y h => h) _ rfl
        · intro V w9 hJ hall
          have dL : V 18 = .bool true := hall 18 (by decide)
          have HJ9 := Lib.hid hJ
          clear hall hJ
          simp only [fill, slotOf, List.size_toArray, List.length_cons, List.length_nil, Nat.reduceAdd, List.getElem?_toArray, List.getElem?_cons_zero, List.getElem?_cons_succ, Option.bind_some, Act.put, List.setIfInBounds_toArray, List.set_cons_zero, List.set_cons_succ]
          rw [dL]
          clear dL
          have HBZ := Lib.hid (HAL.out.trans (HJ9.out.mono HAL.out.size))
          go_wp2_with fail
          go_ret
          exact ⟨HNO.out, HBZ.out⟩
      | true =>
        by_cases hk0 : k = 0
        · subst hk0
          have HOK2 := Lib.hid (HOK.out.succ (by rw [← HSE.out, ← HBX.out]) (fun g => absurd g (Nat.lt_irrefl 0)))
          clear hbx
          refine wp_region_fill (by kernel_rfl) (by kernel_rfl) (by kernel_rfl) (Below (wr.alloc (.cells #[.int .i64 x0, .int .i64 x1, .int .i64 x2] 45)).heap.size (wr.alloc (.cells #[.int .i64 x0, .int .i64 x1, .int .i64 x2] 45))) (FV (fun j_9 => match j_9 with | 0 => some (.func (.func 44) #[] #[]) | 1 => some (.agg #[.int .i64 x0, .int .i64 x1, .int .i64 x2]) | 2 => some (.bool true) | 3 => some (.bool false) | 4 => some (.bool false) | 5 => some (.int .i64 0) | 6 => some (.bool false) | 7 => some (.bool false) | 8 => some (undef) | 9 => some (undef) | 10 => some (undef) | 11 => some (undef) | 12 => some (undef) | 13 => some (undef) | 14 => some (undef) | 15 => some (undef) | 16 => some (undef) | 17 => some (.bool false) | 18 => some (.bool false) | _ => none) (fun _ _ => True)) (Below.refl _ _).drew ?_ ?_
          · intro i9 o ho V w9 K hJ hdep hK
            have HJ := Lib.hid hJ
            simp only [fill, slotOf, List.size_toArray, List.length_cons, List.length_nil, Nat.reduceAdd, List.getElem?_toArray, List.getElem?_cons_zero, List.getElem?_cons_succ, Option.bind_some, Act.put, List.setIfInBounds_toArray, List.set_cons_zero, List.set_cons_succ] at hK ⊢
            have hin : i9 < 19 := (Array.getElem?_eq_some_iff.1 ho).1
            have hcs : i9 = 0 ∨ i9 = 1 ∨ i9 = 2 ∨ i9 = 3 ∨ i9 = 4 ∨ i9 = 5 ∨ i9 = 6 ∨ i9 = 7 ∨ i9 = 8 ∨ i9 = 9 ∨ i9 = 10 ∨ i9 = 11 ∨ i9 = 12 ∨ i9 = 13 ∨ i9 = 14 ∨ i9 = 15 ∨ i9 = 16 ∨ i9 = 17 ∨ i9 = 18 := by omega
            clear hin
            rcases hcs with rfl | rfl | rfl | rfl | rfl | rfl | rfl | rfl | rfl | rfl | rfl | rfl | rfl | rfl | rfl | rfl | rfl | rfl | rfl
            · obtain rfl := Option.some.inj ho.symm
              clear hdep ho hJ
              try simp only [fill, slotOf, List.size_toArray, List.length_cons, List.length_nil, Nat.reduceAdd, List.getElem?_toArray, List.getElem?_cons_zero, List.getElem?_cons_succ, Option.bind_some, Act.put, List.setIfInBounds_toArray, List.set_cons_zero, List.set_cons_succ] at hK ⊢
              go_simp
              exact hK (.func (.func 44) #[] #[]) _ HJ.out rfl (fun j y h => h) _ rfl
            · obtain rfl := Option.some.inj ho.symm
              have e0 : w9.cell? ⟨wr.heap.size, 0, none⟩ = some (.int .i64 x0) := (hJ.cell (p := ⟨wr.heap.size, 0, none⟩) HXL.out).trans (cell_blk HXA.out rfl)
              have e1 : w9.cell? ⟨wr.heap.size, 1, none⟩ = some (.int .i64 x1) := (hJ.cell (p := ⟨wr.heap.size, 1, none⟩) HXL.out).trans (cell_blk HXA.out rfl)
              have e2 : w9.cell? ⟨wr.heap.size, 2, none⟩ = some (.int .i64 x2) := (hJ.cell (p := ⟨wr.heap.size, 2, none⟩) HXL.out).trans (cell_blk HXA.out rfl)
              clear hdep ho hJ
              try simp only [fill, slotOf, List.size_toArray, List.length_cons, List.length_nil, Nat.reduceAdd, List.getElem?_toArray, List.getElem?_cons_zero, List.getElem?_cons_succ, Option.bind_some, Act.put, List.setIfInBounds_toArray, List.set_cons_zero, List.set_cons_succ] at hK ⊢
              go_simp
              exact hK (.agg #[.int .i64 x0, .int .i64 x1, .int .i64 x2]) _ HJ.out rfl (fun j y h => h) _ rfl
            · obtain rfl := Option.some.inj ho.symm
              have d0 : V 0 = .func (.func 44) #[] #[] := hdep ⟨0, .data⟩ (by simp) rfl
              have d1 : V 1 = .agg #[.int .i64 x0, .int .i64 x1, .int .i64 x2] := hdep ⟨1, .data⟩ (by simp) rfl
              clear hdep ho hJ
              try simp only [fill, slotOf, List.size_toArray, List.length_cons, List.length_nil, Nat.reduceAdd, List.getElem?_toArray, List.getElem?_cons_zero, List.getElem?_cons_succ, Option.bind_some, Act.put, List.setIfInBounds_toArray, List.set_cons_zero, List.set_cons_succ] at hK ⊢
              rw [d0, d1] at hK ⊢
              go_simp
              refine (HRX.out w9 HJ.out).mono ?_
              rintro e w8 ⟨rfl, hb8⟩
              exact hK (.bool true) _ (HJ.out.trans (hb8.mono HJ.out.size)) rfl (FV.mono ((fun _ _ _ => trivial) hb8)) _ rfl
            · obtain rfl := Option.some.inj ho.symm
              have d2 : V 2 = .bool true := hdep ⟨2, .data⟩ (by simp) rfl
              clear hdep ho hJ
              try simp only [fill, slotOf, List.size_toArray, List.length_cons, List.length_nil, Nat.reduceAdd, List.getElem?_toArray, List.getElem?_cons_zero, List.getElem?_cons_succ, Option.bind_some, Act.put, List.setIfInBounds_toArray, List.set_cons_zero, List.set_cons_succ] at hK ⊢
              rw [d2] at hK ⊢
              go_simp
              exact hK (.bool false) _ HJ.out rfl (fun j y h => h) _ rfl
            · obtain rfl := Option.some.inj ho.symm
              have d3 : V 3 = .bool false := hdep ⟨3, .data⟩ (by simp) rfl
              clear hdep ho hJ
              try simp only [fill, slotOf, List.size_toArray, List.length_cons, List.length_nil, Nat.reduceAdd, List.getElem?_toArray, List.getElem?_cons_zero, List.getElem?_cons_succ, Option.bind_some, Act.put, List.setIfInBounds_toArray, List.set_cons_zero, List.set_cons_succ] at hK ⊢
              rw [d3] at hK ⊢
              go_simp
              exact hK (.bool false) _ HJ.out rfl (fun j y h => h) _ rfl
            · obtain rfl := Option.some.inj ho.symm
              have d4 : V 4 = .bool false := hdep ⟨4, .guard⟩ (by simp) rfl
              clear hdep ho hJ
              try simp only [fill, slotOf, List.size_toArray, List.length_cons, List.length_nil, Nat.reduceAdd, List.getElem?_toArray, List.getElem?_cons_zero, List.getElem?_cons_succ, Option.bind_some, Act.put, List.setIfInBounds_toArray, List.set_cons_zero, List.set_cons_succ] at hK ⊢
              rw [d4] at hK ⊢
              go_simp
              exact hK (.int .i64 0) _ HJ.out rfl (fun j y h => h) _ rfl
            · obtain rfl := Option.some.inj ho.symm
              have d5 : V 5 = .int .i64 0 := hdep ⟨5, .data⟩ (by simp) rfl
              have d4 : V 4 = .bool false := hdep ⟨4, .guard⟩ (by simp) rfl
              clear hdep ho hJ
              try simp only [fill, slotOf, List.size_toArray, List.length_cons, List.length_nil, Nat.reduceAdd, List.getElem?_toArray, List.getElem?_cons_zero, List.getElem?_cons_succ, Option.bind_some, Act.put, List.setIfInBounds_toArray, List.set_cons_zero, List.set_cons_succ] at hK ⊢
              rw [d5, d4] at hK ⊢
              go_simp
              exact hK (.bool false) _ HJ.out rfl (fun j y h => h) _ rfl
            · obtain rfl := Option.some.inj ho.symm
              have d6 : V 6 = .bool false := hdep ⟨6, .data⟩ (by simp) rfl
              have d4 : V 4 = .bool false := hdep ⟨4, .guard⟩ (by simp) rfl
              clear hdep ho hJ
              try simp only [fill, slotOf, List.size_toArray, List.length_cons, List.length_nil, Nat.reduceAdd, List.getElem?_toArray, List.getElem?_cons_zero, List.getElem?_cons_succ, Option.bind_some, Act.put, List.setIfInBounds_toArray, List.set_cons_zero, List.set_cons_succ] at hK ⊢
              rw [d6, d4] at hK ⊢
              go_simp
              exact hK (.bool false) _ HJ.out rfl (fun j y h => h) _ rfl
            · obtain rfl := Option.some.inj ho.symm
              have d7 : V 7 = .bool false := hdep ⟨7, .guard⟩ (by simp) rfl
              clear hdep ho hJ
              try simp only [fill, slotOf, List.size_toArray, List.length_cons, List.length_nil, Nat.reduceAdd, List.getElem?_toArray, List.getElem?_cons_zero, List.getElem?_cons_succ, Option.bind_some, Act.put, List.setIfInBounds_toArray, List.set_cons_zero, List.set_cons_succ] at hK ⊢
              rw [d7] at hK ⊢
              go_simp
              exact hK (undef) _ HJ.out rfl (fun j y h => h) _ rfl
            · obtain rfl := Option.some.inj ho.symm
              have d7 : V 7 = .bool false := hdep ⟨7, .guard⟩ (by simp) rfl
              clear hdep ho hJ
              try simp only [fill, slotOf, List.size_toArray, List.length_cons, List.length_nil, Nat.reduceAdd, List.getElem?_toArray, List.getElem?_cons_zero, List.getElem?_cons_succ, Option.bind_some, Act.put, List.setIfInBounds_toArray, List.set_cons_zero, List.set_cons_succ] at hK ⊢
              rw [d7] at hK ⊢
              go_simp
              exact hK (undef) _ HJ.out rfl (fun j y h => h) _ rfl
            · obtain rfl := Option.some.inj ho.symm
              have d7 : V 7 = .bool false := hdep ⟨7, .guard⟩ (by simp) rfl
              clear hdep ho hJ
              try simp only [fill, slotOf, List.size_toArray, List.length_cons, List.length_nil, Nat.reduceAdd, List.getElem?_toArray, List.getElem?_cons_zero, List.getElem?_cons_succ, Option.bind_some, Act.put, List.setIfInBounds_toArray, List.set_cons_zero, List.set_cons_succ] at hK ⊢
              rw [d7] at hK ⊢
              go_simp
              exact hK (undef) _ HJ.out rfl (fun j y h => h) _ rfl
            · obtain rfl := Option.some.inj ho.symm
              have d7 : V 7 = .bool false := hdep ⟨7, .guard⟩ (by simp) rfl
              clear hdep ho hJ
              try simp only [fill, slotOf, List.size_toArray, List.length_cons, List.length_nil, Nat.reduceAdd, List.getElem?_toArray, List.getElem?_cons_zero, List.getElem?_cons_succ, Option.bind_some, Act.put, List.setIfInBounds_toArray, List.set_cons_zero, List.set_cons_succ] at hK ⊢
              rw [d7] at hK ⊢
              go_simp
              exact hK (undef) _ HJ.out rfl (fun j y h => h) _ rfl
            · obtain rfl := Option.some.inj ho.symm
              have d7 : V 7 = .bool false := hdep ⟨7, .guard⟩ (by simp) rfl
              clear hdep ho hJ
              try simp only [fill, slotOf, List.size_toArray, List.length_cons, List.length_nil, Nat.reduceAdd, List.getElem?_toArray, List.getElem?_cons_zero, List.getElem?_cons_succ, Option.bind_some, Act.put, List.setIfInBounds_toArray, List.set_cons_zero, List.set_cons_succ] at hK ⊢
              rw [d7] at hK ⊢
              go_simp
              exact hK (undef) _ HJ.out rfl (fun j y h => h) _ rfl
            · obtain rfl := Option.some.inj ho.symm
              have d7 : V 7 = .bool false := hdep ⟨7, .guard⟩ (by simp) rfl
              clear hdep ho hJ
              try simp only [fill, slotOf, List.size_toArray, List.length_cons, List.length_nil, Nat.reduceAdd, List.getElem?_toArray, List.getElem?_cons_zero, List.getElem?_cons_succ, Option.bind_some, Act.put, List.setIfInBounds_toArray, List.set_cons_zero, List.set_cons_succ] at hK ⊢
              rw [d7] at hK ⊢
              go_simp
              exact hK (undef) _ HJ.out rfl (fun j y h => h) _ rfl
            · obtain rfl := Option.some.inj ho.symm
              have d7 : V 7 = .bool false := hdep ⟨7, .guard⟩ (by simp) rfl
              clear hdep ho hJ
              try simp only [fill, slotOf, List.size_toArray, List.length_cons, List.length_nil, Nat.reduceAdd, List.getElem?_toArray, List.getElem?_cons_zero, List.getElem?_cons_succ, Option.bind_some, Act.put, List.setIfInBounds_toArray, List.set_cons_zero, List.set_cons_succ] at hK ⊢
              rw [d7] at hK ⊢
              go_simp
              exact hK (undef) _ HJ.out rfl (fun j y h => h) _ rfl
            · obtain rfl := Option.some.inj ho.symm
              have d7 : V 7 = .bool false := hdep ⟨7, .guard⟩ (by simp) rfl
              clear hdep ho hJ
              try simp only [fill, slotOf, List.size_toArray, List.length_cons, List.length_nil, Nat.reduceAdd, List.getElem?_toArray, List.getElem?_cons_zero, List.getElem?_cons_succ, Option.bind_some, Act.put, List.setIfInBounds_toArray, List.set_cons_zero, List.set_cons_succ] at hK ⊢
              rw [d7] at hK ⊢
              go_simp
              exact hK (undef) _ HJ.out rfl (fun j y h => h) _ rfl
            · obtain rfl := Option.some.inj ho.symm
              have d7 : V 7 = .bool false := hdep ⟨7, .guard⟩ (by simp) rfl
              clear hdep ho hJ
              try simp only [fill, slotOf, List.size_toArray, List.length_cons, List.length_nil, Nat.reduceAdd, List.getElem?_toArray, List.getElem?_cons_zero, List.getElem?_cons_succ, Option.bind_some, Act.put, List.setIfInBounds_toArray, List.set_cons_zero, List.set_cons_succ] at hK ⊢
              rw [d7] at hK ⊢
              go_simp
              exact hK (undef) _ HJ.out rfl (fun j y h => h) _ rfl
            · obtain rfl := Option.some.inj ho.symm
              have d7 : V 7 = .bool false := hdep ⟨7, .data⟩ (by simp) rfl
              have d4 : V 4 = .bool false := hdep ⟨4, .guard⟩ (by simp) rfl
              clear hdep ho hJ
              try simp only [fill, slotOf, List.size_toArray, List.length_cons, List.length_nil, Nat.reduceAdd, List.getElem?_toArray, List.getElem?_cons_zero, List.getElem?_cons_succ, Option.bind_some, Act.put, List.setIfInBounds_toArray, List.set_cons_zero, List.set_cons_succ] at hK ⊢
              rw [d7, d4] at hK ⊢
              go_simp
              exact hK (.bool false) _ HJ.out rfl (fun j y h => h) _ rfl
            · obtain rfl := Option.some.inj ho.symm
              have d4 : V 4 = .bool false := hdep ⟨4, .data⟩ (by simp) rfl
              have d17 : V 17 = .bool false := hdep ⟨17, .data⟩ (by simp) rfl
              clear hdep ho hJ
              try simp only [fill, slotOf, List.size_toArray, List.length_cons, List.length_nil, Nat.reduceAdd, List.getElem?_toArray, List.getElem?_cons_zero, List.getElem?_cons_succ, Option.bind_some, Act.put, List.setIfInBounds_toArray, List.set_cons_zero, List.set_cons_succ] at hK ⊢
              rw [d4, d17] at hK ⊢
              go_simp
              exact hK (.bool false) _ HJ.out rfl (fun j y h => h) _ rfl
          · intro V w9 hJ hall
            have dL : V 18 = .bool false := hall 18 (by decide)
            have HJ9 := Lib.hid hJ
            clear hall hJ
            simp only [fill, slotOf, List.size_toArray, List.length_cons, List.length_nil, Nat.reduceAdd, List.getElem?_toArray, List.getElem?_cons_zero, List.getElem?_cons_succ, Option.bind_some, Act.put, List.setIfInBounds_toArray, List.set_cons_zero, List.set_cons_succ]
            rw [dL]
            clear dL
            have HBZ := Lib.hid (HAL.out.trans (HJ9.out.mono HAL.out.size))
            go_wp2_with fail
            go_roundw
            case rel => exact ⟨1, by omega, rfl, HOK2, HBZ⟩
            case measure => simp [intOf]; try omega
        · obtain ⟨j, rfl⟩ : ∃ j, k = j + 1 := ⟨k - 1, by omega⟩
          have HSYJ := Lib.hid HSY.out
          simp only [Nat.add_sub_cancel] at HSYJ
          clear HSY
          have HSY := HSYJ
          clear HSYJ
          obtain ⟨zz, hzz⟩ : ∃ zz, zz = cmp3 y0 x0 := ⟨_, rfl⟩
          have HCM := Lib.hid (show ∀ W9, Calls Tryz.prog 43 #[.agg #[.int .i64 y0, .int .i64 y1, .int .i64 y2], .agg #[.int .i64 x0, .int .i64 x1, .int .i64 x2]] W9 fun e w' => e = .returned (.int .i64 zz) ∧ Below W9.heap.size W9 w' from fun W9 => by rw [hzz]; exact byO_any y0 x0 y1 x1 y2 x2 W9)
          by_cases hge : zz ≥ 0
          · have HZ := Lib.hid (show decide (zz ≥ 0) = true from decide_eq_true hge)
            have HNO := Lib.hid (RisIs.no (p := p) (cm := fun a b => cmp3 a.1 b.1) (d := OwnS.z) (l := l) hkn (fun g => by have h1 := g.2 (by omega); rw [← HSE.out, ← HRE.out] at h1; have h2 : cmp3 y0 x0 < 0 := h1; rw [← hzz] at h2; omega))
            clear hbx hzz hge
            refine wp_region_fill (by kernel_rfl) (by kernel_rfl) (by kernel_rfl) (Below (wr.alloc (.cells #[.int .i64 x0, .int .i64 x1, .int .i64 x2] 45)).heap.size (wr.alloc (.cells #[.int .i64 x0, .int .i64 x1, .int .i64 x2] 45))) (FV (fun j_9 => match j_9 with | 0 => some (.func (.func 44) #[] #[]) | 1 => some (.agg #[.int .i64 x0, .int .i64 x1, .int .i64 x2]) | 2 => some (.bool true) | 3 => some (.bool false) | 4 => some (.bool false) | 5 => some (.int .i64 ((j : Int) + 1)) | 6 => some (.bool true) | 7 => some (.bool true) | 8 => some (.func (.func 43) #[] #[]) | 9 => some (.slice (some ⟨sb, so, none⟩) n c) | 10 => some (.int .i64 ((j : Int) + 1)) | 11 => some (.int .i64 (j : Int)) | 12 => some (.pointer (some ⟨sb, so + j * 3, none⟩)) | 13 => some (.agg #[.int .i64 y0, .int .i64 y1, .int .i64 y2]) | 14 => some (.agg #[.int .i64 x0, .int .i64 x1, .int .i64 x2]) | 15 => some (.int .i64 zz) | 16 => some (.bool true) | 17 => some (.bool true) | 18 => some (.bool true) | _ => none) (fun _ _ => True)) (Below.refl _ _).drew ?_ ?_
            · intro i9 o ho V w9 K hJ hdep hK
              have HJ := Lib.hid hJ
              simp only [fill, slotOf, List.size_toArray, List.length_cons, List.length_nil, Nat.reduceAdd, List.getElem?_toArray, List.getElem?_cons_zero, List.getElem?_cons_succ, Option.bind_some, Act.put, List.setIfInBounds_toArray, List.set_cons_zero, List.set_cons_succ] at hK ⊢
              have hin : i9 < 19 := (Array.getElem?_eq_some_iff.1 ho).1
              have hcs : i9 = 0 ∨ i9 = 1 ∨ i9 = 2 ∨ i9 = 3 ∨ i9 = 4 ∨ i9 = 5 ∨ i9 = 6 ∨ i9 = 7 ∨ i9 = 8 ∨ i9 = 9 ∨ i9 = 10 ∨ i9 = 11 ∨ i9 = 12 ∨ i9 = 13 ∨ i9 = 14 ∨ i9 = 15 ∨ i9 = 16 ∨ i9 = 17 ∨ i9 = 18 := by omega
              clear hin
              rcases hcs with rfl | rfl | rfl | rfl | rfl | rfl | rfl | rfl | rfl | rfl | rfl | rfl | rfl | rfl | rfl | rfl | rfl | rfl | rfl
              · obtain rfl := Option.some.inj ho.symm
                clear hdep ho hJ
                try simp only [fill, slotOf, List.size_toArray, List.length_cons, List.length_nil, Nat.reduceAdd, List.getElem?_toArray, List.getElem?_cons_zero, List.getElem?_cons_succ, Option.bind_some, Act.put, List.setIfInBounds_toArray, List.set_cons_zero, List.set_cons_succ] at hK ⊢
                go_simp
                exact hK (.func (.func 44) #[] #[]) _ HJ.out rfl (fun j y h => h) _ rfl
              · obtain rfl := Option.some.inj ho.symm
                have e0 : w9.cell? ⟨wr.heap.size, 0, none⟩ = some (.int .i64 x0) := (hJ.cell (p := ⟨wr.heap.size, 0, none⟩) HXL.out).trans (cell_blk HXA.out rfl)
                have e1 : w9.cell? ⟨wr.heap.size, 1, none⟩ = some (.int .i64 x1) := (hJ.cell (p := ⟨wr.heap.size, 1, none⟩) HXL.out).trans (cell_blk HXA.out rfl)
                have e2 : w9.cell? ⟨wr.heap.size, 2, none⟩ = some (.int .i64 x2) := (hJ.cell (p := ⟨wr.heap.size, 2, none⟩) HXL.out).trans (cell_blk HXA.out rfl)
                clear hdep ho hJ
                try simp only [fill, slotOf, List.size_toArray, List.length_cons, List.length_nil, Nat.reduceAdd, List.getElem?_toArray, List.getElem?_cons_zero, List.getElem?_cons_succ, Option.bind_some, Act.put, List.setIfInBounds_toArray, List.set_cons_zero, List.set_cons_succ] at hK ⊢
                go_simp
                exact hK (.agg #[.int .i64 x0, .int .i64 x1, .int .i64 x2]) _ HJ.out rfl (fun j y h => h) _ rfl
              · obtain rfl := Option.some.inj ho.symm
                have d0 : V 0 = .func (.func 44) #[] #[] := hdep ⟨0, .data⟩ (by simp) rfl
                have d1 : V 1 = .agg #[.int .i64 x0, .int .i64 x1, .int .i64 x2] := hdep ⟨1, .data⟩ (by simp) rfl
                clear hdep ho hJ
                try simp only [fill, slotOf, List.size_toArray, List.length_cons, List.length_nil, Nat.reduceAdd, List.getElem?_toArray, List.getElem?_cons_zero, List.getElem?_cons_succ, Option.bind_some, Act.put, List.setIfInBounds_toArray, List.set_cons_zero, List.set_cons_succ] at hK ⊢
                rw [d0, d1] at hK ⊢
                go_simp
                refine (HRX.out w9 HJ.out).mono ?_
                rintro e w8 ⟨rfl, hb8⟩
                exact hK (.bool true) _ (HJ.out.trans (hb8.mono HJ.out.size)) rfl (FV.mono ((fun _ _ _ => trivial) hb8)) _ rfl
              · obtain rfl := Option.some.inj ho.symm
                have d2 : V 2 = .bool true := hdep ⟨2, .data⟩ (by simp) rfl
                clear hdep ho hJ
                try simp only [fill, slotOf, List.size_toArray, List.length_cons, List.length_nil, Nat.reduceAdd, List.getElem?_toArray, List.getElem?_cons_zero, List.getElem?_cons_succ, Option.bind_some, Act.put, List.setIfInBounds_toArray, List.set_cons_zero, List.set_cons_succ] at hK ⊢
                rw [d2] at hK ⊢
                go_simp
                exact hK (.bool false) _ HJ.out rfl (fun j y h => h) _ rfl
              · obtain rfl := Option.some.inj ho.symm
                have d3 : V 3 = .bool false := hdep ⟨3, .data⟩ (by simp) rfl
                clear hdep ho hJ
                try simp only [fill, slotOf, List.size_toArray, List.length_cons, List.length_nil, Nat.reduceAdd, List.getElem?_toArray, List.getElem?_cons_zero, List.getElem?_cons_succ, Option.bind_some, Act.put, List.setIfInBounds_toArray, List.set_cons_zero, List.set_cons_succ] at hK ⊢
                rw [d3] at hK ⊢
                go_simp
                exact hK (.bool false) _ HJ.out rfl (fun j y h => h) _ rfl
              · obtain rfl := Option.some.inj ho.symm
                have d4 : V 4 = .bool false := hdep ⟨4, .guard⟩ (by simp) rfl
                clear hdep ho hJ
                try simp only [fill, slotOf, List.size_toArray, List.length_cons, List.length_nil, Nat.reduceAdd, List.getElem?_toArray, List.getElem?_cons_zero, List.getElem?_cons_succ, Option.bind_some, Act.put, List.setIfInBounds_toArray, List.set_cons_zero, List.set_cons_succ] at hK ⊢
                rw [d4] at hK ⊢
                go_simp
                exact hK (.int .i64 ((j : Int) + 1)) _ HJ.out rfl (fun j y h => h) _ rfl
              · obtain rfl := Option.some.inj ho.symm
                have d5 : V 5 = .int .i64 ((j : Int) + 1) := hdep ⟨5, .data⟩ (by simp) rfl
                have d4 : V 4 = .bool false := hdep ⟨4, .guard⟩ (by simp) rfl
                have hk9 : decide ((j : Int) + 1 > 0) = true := decide_eq_true (by omega)
                clear hdep ho hJ
                try simp only [fill, slotOf, List.size_toArray, List.length_cons, List.length_nil, Nat.reduceAdd, List.getElem?_toArray, List.getElem?_cons_zero, List.getElem?_cons_succ, Option.bind_some, Act.put, List.setIfInBounds_toArray, List.set_cons_zero, List.set_cons_succ] at hK ⊢
                rw [d5, d4] at hK ⊢
                go_simp
                exact hK (.bool true) _ HJ.out rfl (fun j y h => h) _ rfl
              · obtain rfl := Option.some.inj ho.symm
                have d6 : V 6 = .bool true := hdep ⟨6, .data⟩ (by simp) rfl
                have d4 : V 4 = .bool false := hdep ⟨4, .guard⟩ (by simp) rfl
                clear hdep ho hJ
                try simp only [fill, slotOf, List.size_toArray, List.length_cons, List.length_nil, Nat.reduceAdd, List.getElem?_toArray, List.getElem?_cons_zero, List.getElem?_cons_succ, Option.bind_some, Act.put, List.setIfInBounds_toArray, List.set_cons_zero, List.set_cons_succ] at hK ⊢
                rw [d6, d4] at hK ⊢
                go_simp
                exact hK (.bool true) _ HJ.out rfl (fun j y h => h) _ rfl
              · obtain rfl := Option.some.inj ho.symm
                have d7 : V 7 = .bool true := hdep ⟨7, .guard⟩ (by simp) rfl
                clear hdep ho hJ
                try simp only [fill, slotOf, List.size_toArray, List.length_cons, List.length_nil, Nat.reduceAdd, List.getElem?_toArray, List.getElem?_cons_zero, List.getElem?_cons_succ, Option.bind_some, Act.put, List.setIfInBounds_toArray, List.set_cons_zero, List.set_cons_succ] at hK ⊢
                rw [d7] at hK ⊢
                go_simp
                exact hK (.func (.func 43) #[] #[]) _ HJ.out rfl (fun j y h => h) _ rfl
              · obtain rfl := Option.some.inj ho.symm
                have d7 : V 7 = .bool true := hdep ⟨7, .guard⟩ (by simp) rfl
                clear hdep ho hJ
                try simp only [fill, slotOf, List.size_toArray, List.length_cons, List.length_nil, Nat.reduceAdd, List.getElem?_toArray, List.getElem?_cons_zero, List.getElem?_cons_succ, Option.bind_some, Act.put, List.setIfInBounds_toArray, List.set_cons_zero, List.set_cons_succ] at hK ⊢
                rw [d7] at hK ⊢
                go_simp
                exact hK (.slice (some ⟨sb, so, none⟩) n c) _ HJ.out rfl (fun j y h => h) _ rfl
              · obtain rfl := Option.some.inj ho.symm
                have d7 : V 7 = .bool true := hdep ⟨7, .guard⟩ (by simp) rfl
                clear hdep ho hJ
                try simp only [fill, slotOf, List.size_toArray, List.length_cons, List.length_nil, Nat.reduceAdd, List.getElem?_toArray, List.getElem?_cons_zero, List.getElem?_cons_succ, Option.bind_some, Act.put, List.setIfInBounds_toArray, List.set_cons_zero, List.set_cons_succ] at hK ⊢
                rw [d7] at hK ⊢
                go_simp
                exact hK (.int .i64 ((j : Int) + 1)) _ HJ.out rfl (fun j y h => h) _ rfl
              · obtain rfl := Option.some.inj ho.symm
                have d10 : V 10 = .int .i64 ((j : Int) + 1) := hdep ⟨10, .data⟩ (by simp) rfl
                have d7 : V 7 = .bool true := hdep ⟨7, .guard⟩ (by simp) rfl
                have hw1 : IntKind.i64.wrap (j : Int) = (j : Int) := IntWalk.i64_in _ (by omega)
                have hw2 : IntKind.i64.wrap ((j : Int) + 1 - 1) = (j : Int) := by rw [Int.add_sub_cancel]; exact hw1
                clear hdep ho hJ
                try simp only [fill, slotOf, List.size_toArray, List.length_cons, List.length_nil, Nat.reduceAdd, List.getElem?_toArray, List.getElem?_cons_zero, List.getElem?_cons_succ, Option.bind_some, Act.put, List.setIfInBounds_toArray, List.set_cons_zero, List.set_cons_succ] at hK ⊢
                rw [d10, d7] at hK ⊢
                go_simp
                exact hK (.int .i64 (j : Int)) _ HJ.out rfl (fun j y h => h) _ rfl
              · obtain rfl := Option.some.inj ho.symm
                have d9 : V 9 = .slice (some ⟨sb, so, none⟩) n c := hdep ⟨9, .data⟩ (by simp) rfl
                have d11 : V 11 = .int .i64 (j : Int) := hdep ⟨11, .data⟩ (by simp) rfl
                have d7 : V 7 = .bool true := hdep ⟨7, .guard⟩ (by simp) rfl
                have hjn : j < n := by omega
                have hjn2 : (j : Int) < (n : Int) := by omega
                clear hdep ho hJ
                try simp only [fill, slotOf, List.size_toArray, List.length_cons, List.length_nil, Nat.reduceAdd, List.getElem?_toArray, List.getElem?_cons_zero, List.getElem?_cons_succ, Option.bind_some, Act.put, List.setIfInBounds_toArray, List.set_cons_zero, List.set_cons_succ] at hK ⊢
                rw [d9, d11, d7] at hK ⊢
                go_simp
                exact hK (.pointer (some ⟨sb, so + j * 3, none⟩)) _ HJ.out rfl (fun j y h => h) _ rfl
              · obtain rfl := Option.some.inj ho.symm
                have d12 : V 12 = .pointer (some ⟨sb, so + j * 3, none⟩) := hdep ⟨12, .data⟩ (by simp) rfl
                have d7 : V 7 = .bool true := hdep ⟨7, .guard⟩ (by simp) rfl
                have u0 : w9.cell? ⟨sb, so + j * 3, none⟩ = some (.int .i64 y0) := (hJ.cell (p := ⟨sb, so + j * 3 + 0, none⟩) HSL.out).trans (HSY.out 0 _ rfl)
                have u1 : w9.cell? ⟨sb, so + j * 3 + 1, none⟩ = some (.int .i64 y1) := (hJ.cell (p := ⟨sb, so + j * 3 + 1, none⟩) HSL.out).trans (HSY.out 1 _ rfl)
                have u2 : w9.cell? ⟨sb, so + j * 3 + 2, none⟩ = some (.int .i64 y2) := (hJ.cell (p := ⟨sb, so + j * 3 + 2, none⟩) HSL.out).trans (HSY.out 2 _ rfl)
                clear hdep ho hJ
                try simp only [fill, slotOf, List.size_toArray, List.length_cons, List.length_nil, Nat.reduceAdd, List.getElem?_toArray, List.getElem?_cons_zero, List.getElem?_cons_succ, Option.bind_some, Act.put, List.setIfInBounds_toArray, List.set_cons_zero, List.set_cons_succ] at hK ⊢
                rw [d12, d7] at hK ⊢
                go_simp
                exact hK (.agg #[.int .i64 y0, .int .i64 y1, .int .i64 y2]) _ HJ.out rfl (fun j y h => h) _ rfl
              · obtain rfl := Option.some.inj ho.symm
                have d7 : V 7 = .bool true := hdep ⟨7, .guard⟩ (by simp) rfl
                have e0 : w9.cell? ⟨wr.heap.size, 0, none⟩ = some (.int .i64 x0) := (hJ.cell (p := ⟨wr.heap.size, 0, none⟩) HXL.out).trans (cell_blk HXA.out rfl)
                have e1 : w9.cell? ⟨wr.heap.size, 1, none⟩ = some (.int .i64 x1) := (hJ.cell (p := ⟨wr.heap.size, 1, none⟩) HXL.out).trans (cell_blk HXA.out rfl)
                have e2 : w9.cell? ⟨wr.heap.size, 2, none⟩ = some (.int .i64 x2) := (hJ.cell (p := ⟨wr.heap.size, 2, none⟩) HXL.out).trans (cell_blk HXA.out rfl)
                clear hdep ho hJ
                try simp only [fill, slotOf, List.size_toArray, List.length_cons, List.length_nil, Nat.reduceAdd, List.getElem?_toArray, List.getElem?_cons_zero, List.getElem?_cons_succ, Option.bind_some, Act.put, List.setIfInBounds_toArray, List.set_cons_zero, List.set_cons_succ] at hK ⊢
                rw [d7] at hK ⊢
                go_simp
                exact hK (.agg #[.int .i64 x0, .int .i64 x1, .int .i64 x2]) _ HJ.out rfl (fun j y h => h) _ rfl
              · obtain rfl := Option.some.inj ho.symm
                have d8 : V 8 = .func (.func 43) #[] #[] := hdep ⟨8, .data⟩ (by simp) rfl
                have d13 : V 13 = .agg #[.int .i64 y0, .int .i64 y1, .int .i64 y2] := hdep ⟨13, .data⟩ (by simp) rfl
                have d14 : V 14 = .agg #[.int .i64 x0, .int .i64 x1, .int .i64 x2] := hdep ⟨14, .data⟩ (by simp) rfl
                have d7 : V 7 = .bool true := hdep ⟨7, .guard⟩ (by simp) rfl
                clear hdep ho hJ
                try simp only [fill, slotOf, List.size_toArray, List.length_cons, List.length_nil, Nat.reduceAdd, List.getElem?_toArray, List.getElem?_cons_zero, List.getElem?_cons_succ, Option.bind_some, Act.put, List.setIfInBounds_toArray, List.set_cons_zero, List.set_cons_succ] at hK ⊢
                rw [d8, d13, d14, d7] at hK ⊢
                go_simp
                refine (HCM.out w9).mono ?_
                rintro e w8 ⟨rfl, hb8⟩
                exact hK (.int .i64 zz) _ (HJ.out.trans (hb8.mono HJ.out.size)) rfl (FV.mono ((fun _ _ _ => trivial) hb8)) _ rfl
              · obtain rfl := Option.some.inj ho.symm
                have d15 : V 15 = .int .i64 zz := hdep ⟨15, .data⟩ (by simp) rfl
                have d7 : V 7 = .bool true := hdep ⟨7, .guard⟩ (by simp) rfl
                have hz9 : decide (zz ≥ 0) = true := HZ.out
                clear hdep ho hJ
                try simp only [fill, slotOf, List.size_toArray, List.length_cons, List.length_nil, Nat.reduceAdd, List.getElem?_toArray, List.getElem?_cons_zero, List.getElem?_cons_succ, Option.bind_some, Act.put, List.setIfInBounds_toArray, List.set_cons_zero, List.set_cons_succ] at hK ⊢
                rw [d15, d7] at hK ⊢
                go_simp
                exact hK (.bool true) _ HJ.out rfl (fun j y h => h) _ rfl
              · obtain rfl := Option.some.inj ho.symm
                have d7 : V 7 = .bool true := hdep ⟨7, .data⟩ (by simp) rfl
                have d16 : V 16 = .bool true := hdep ⟨16, .data⟩ (by simp) rfl
                have d4 : V 4 = .bool false := hdep ⟨4, .guard⟩ (by simp) rfl
                clear hdep ho hJ
                try simp only [fill, slotOf, List.size_toArray, List.length_cons, List.length_nil, Nat.reduceAdd, List.getElem?_toArray, List.getElem?_cons_zero, List.getElem?_cons_succ, Option.bind_some, Act.put, List.setIfInBounds_toArray, List.set_cons_zero, List.set_cons_succ] at hK ⊢
                rw [d7, d16, d4] at hK ⊢
                go_simp
                exact hK (.bool true) _ HJ.out rfl (fun j y h => h) _ rfl
              · obtain rfl := Option.some.inj ho.symm
                have d4 : V 4 = .bool false := hdep ⟨4, .data⟩ (by simp) rfl
                have d17 : V 17 = .bool true := hdep ⟨17, .data⟩ (by simp) rfl
                clear hdep ho hJ
                try simp only [fill, slotOf, List.size_toArray, List.length_cons, List.length_nil, Nat.reduceAdd, List.getElem?_toArray, List.getElem?_cons_zero, List.getElem?_cons_succ, Option.bind_some, Act.put, List.setIfInBounds_toArray, List.set_cons_zero, List.set_cons_succ] at hK ⊢
                rw [d4, d17] at hK ⊢
                go_simp
                exact hK (.bool true) _ HJ.out rfl (fun j y h => h) _ rfl
            · intro V w9 hJ hall
              have dL : V 18 = .bool true := hall 18 (by decide)
              have HJ9 := Lib.hid hJ
              clear hall hJ
              simp only [fill, slotOf, List.size_toArray, List.length_cons, List.length_nil, Nat.reduceAdd, List.getElem?_toArray, List.getElem?_cons_zero, List.getElem?_cons_succ, Option.bind_some, Act.put, List.setIfInBounds_toArray, List.set_cons_zero, List.set_cons_succ]
              rw [dL]
              clear dL
              have HBZ := Lib.hid (HAL.out.trans (HJ9.out.mono HAL.out.size))
              go_wp2_with fail
              go_ret
              exact ⟨HNO.out, HBZ.out⟩
          · have HZ := Lib.hid (show decide (zz ≥ 0) = false from decide_eq_false hge)
            have HOK2 := Lib.hid (HOK.out.succ (by rw [← HSE.out, ← HBX.out]) (fun _ => by rw [← HSE.out, ← HRE.out]; show cmp3 y0 x0 < 0; rw [← hzz]; omega))
            clear hbx hzz hge
            refine wp_region_fill (by kernel_rfl) (by kernel_rfl) (by kernel_rfl) (Below (wr.alloc (.cells #[.int .i64 x0, .int .i64 x1, .int .i64 x2] 45)).heap.size (wr.alloc (.cells #[.int .i64 x0, .int .i64 x1, .int .i64 x2] 45))) (FV (fun j_9 => match j_9 with | 0 => some (.func (.func 44) #[] #[]) | 1 => some (.agg #[.int .i64 x0, .int .i64 x1, .int .i64 x2]) | 2 => some (.bool true) | 3 => some (.bool false) | 4 => some (.bool false) | 5 => some (.int .i64 ((j : Int) + 1)) | 6 => some (.bool true) | 7 => some (.bool true) | 8 => some (.func (.func 43) #[] #[]) | 9 => some (.slice (some ⟨sb, so, none⟩) n c) | 10 => some (.int .i64 ((j : Int) + 1)) | 11 => some (.int .i64 (j : Int)) | 12 => some (.pointer (some ⟨sb, so + j * 3, none⟩)) | 13 => some (.agg #[.int .i64 y0, .int .i64 y1, .int .i64 y2]) | 14 => some (.agg #[.int .i64 x0, .int .i64 x1, .int .i64 x2]) | 15 => some (.int .i64 zz) | 16 => some (.bool false) | 17 => some (.bool false) | 18 => some (.bool false) | _ => none) (fun _ _ => True)) (Below.refl _ _).drew ?_ ?_
            · intro i9 o ho V w9 K hJ hdep hK
              have HJ := Lib.hid hJ
              simp only [fill, slotOf, List.size_toArray, List.length_cons, List.length_nil, Nat.reduceAdd, List.getElem?_toArray, List.getElem?_cons_zero, List.getElem?_cons_succ, Option.bind_some, Act.put, List.setIfInBounds_toArray, List.set_cons_zero, List.set_cons_succ] at hK ⊢
              have hin : i9 < 19 := (Array.getElem?_eq_some_iff.1 ho).1
              have hcs : i9 = 0 ∨ i9 = 1 ∨ i9 = 2 ∨ i9 = 3 ∨ i9 = 4 ∨ i9 = 5 ∨ i9 = 6 ∨ i9 = 7 ∨ i9 = 8 ∨ i9 = 9 ∨ i9 = 10 ∨ i9 = 11 ∨ i9 = 12 ∨ i9 = 13 ∨ i9 = 14 ∨ i9 = 15 ∨ i9 = 16 ∨ i9 = 17 ∨ i9 = 18 := by omega
              clear hin
              rcases hcs with rfl | rfl | rfl | rfl | rfl | rfl | rfl | rfl | rfl | rfl | rfl | rfl | rfl | rfl | rfl | rfl | rfl | rfl | rfl
              · obtain rfl := Option.some.inj ho.symm
                clear hdep ho hJ
                try simp only [fill, slotOf, List.size_toArray, List.length_cons, List.length_nil, Nat.reduceAdd, List.getElem?_toArray, List.getElem?_cons_zero, List.getElem?_cons_succ, Option.bind_some, Act.put, List.setIfInBounds_toArray, List.set_cons_zero, List.set_cons_succ] at hK ⊢
                go_simp
                exact hK (.func (.func 44) #[] #[]) _ HJ.out rfl (fun j y h => h) _ rfl
              · obtain rfl := Option.some.inj ho.symm
                have e0 : w9.cell? ⟨wr.heap.size, 0, none⟩ = some (.int .i64 x0) := (hJ.cell (p := ⟨wr.heap.size, 0, none⟩) HXL.out).trans (cell_blk HXA.out rfl)
                have e1 : w9.cell? ⟨wr.heap.size, 1, none⟩ = some (.int .i64 x1) := (hJ.cell (p := ⟨wr.heap.size, 1, none⟩) HXL.out).trans (cell_blk HXA.out rfl)
                have e2 : w9.cell? ⟨wr.heap.size, 2, none⟩ = some (.int .i64 x2) := (hJ.cell (p := ⟨wr.heap.size, 2, none⟩) HXL.out).trans (cell_blk HXA.out rfl)
                clear hdep ho hJ
                try simp only [fill, slotOf, List.size_toArray, List.length_cons, List.length_nil, Nat.reduceAdd, List.getElem?_toArray, List.getElem?_cons_zero, List.getElem?_cons_succ, Option.bind_some, Act.put, List.setIfInBounds_toArray, List.set_cons_zero, List.set_cons_succ] at hK ⊢
                go_simp
                exact hK (.agg #[.int .i64 x0, .int .i64 x1, .int .i64 x2]) _ HJ.out rfl (fun j y h => h) _ rfl
              · obtain rfl := Option.some.inj ho.symm
                have d0 : V 0 = .func (.func 44) #[] #[] := hdep ⟨0, .data⟩ (by simp) rfl
                have d1 : V 1 = .agg #[.int .i64 x0, .int .i64 x1, .int .i64 x2] := hdep ⟨1, .data⟩ (by simp) rfl
                clear hdep ho hJ
                try simp only [fill, slotOf, List.size_toArray, List.length_cons, List.length_nil, Nat.reduceAdd, List.getElem?_toArray, List.getElem?_cons_zero, List.getElem?_cons_succ, Option.bind_some, Act.put, List.setIfInBounds_toArray, List.set_cons_zero, List.set_cons_succ] at hK ⊢
                rw [d0, d1] at hK ⊢
                go_simp
                refine (HRX.out w9 HJ.out).mono ?_
                rintro e w8 ⟨rfl, hb8⟩
                exact hK (.bool true) _ (HJ.out.trans (hb8.mono HJ.out.size)) rfl (FV.mono ((fun _ _ _ => trivial) hb8)) _ rfl
              · obtain rfl := Option.some.inj ho.symm
                have d2 : V 2 = .bool true := hdep ⟨2, .data⟩ (by simp) rfl
                clear hdep ho hJ
                try simp only [fill, slotOf, List.size_toArray, List.length_cons, List.length_nil, Nat.reduceAdd, List.getElem?_toArray, List.getElem?_cons_zero, List.getElem?_cons_succ, Option.bind_some, Act.put, List.setIfInBounds_toArray, List.set_cons_zero, List.set_cons_succ] at hK ⊢
                rw [d2] at hK ⊢
                go_simp
                exact hK (.bool false) _ HJ.out rfl (fun j y h => h) _ rfl
              · obtain rfl := Option.some.inj ho.symm
                have d3 : V 3 = .bool false := hdep ⟨3, .data⟩ (by simp) rfl
                clear hdep ho hJ
                try simp only [fill, slotOf, List.size_toArray, List.length_cons, List.length_nil, Nat.reduceAdd, List.getElem?_toArray, List.getElem?_cons_zero, List.getElem?_cons_succ, Option.bind_some, Act.put, List.setIfInBounds_toArray, List.set_cons_zero, List.set_cons_succ] at hK ⊢
                rw [d3] at hK ⊢
                go_simp
                exact hK (.bool false) _ HJ.out rfl (fun j y h => h) _ rfl
              · obtain rfl := Option.some.inj ho.symm
                have d4 : V 4 = .bool false := hdep ⟨4, .guard⟩ (by simp) rfl
                clear hdep ho hJ
                try simp only [fill, slotOf, List.size_toArray, List.length_cons, List.length_nil, Nat.reduceAdd, List.getElem?_toArray, List.getElem?_cons_zero, List.getElem?_cons_succ, Option.bind_some, Act.put, List.setIfInBounds_toArray, List.set_cons_zero, List.set_cons_succ] at hK ⊢
                rw [d4] at hK ⊢
                go_simp
                exact hK (.int .i64 ((j : Int) + 1)) _ HJ.out rfl (fun j y h => h) _ rfl
              · obtain rfl := Option.some.inj ho.symm
                have d5 : V 5 = .int .i64 ((j : Int) + 1) := hdep ⟨5, .data⟩ (by simp) rfl
                have d4 : V 4 = .bool false := hdep ⟨4, .guard⟩ (by simp) rfl
                have hk9 : decide ((j : Int) + 1 > 0) = true := decide_eq_true (by omega)
                clear hdep ho hJ
                try simp only [fill, slotOf, List.size_toArray, List.length_cons, List.length_nil, Nat.reduceAdd, List.getElem?_toArray, List.getElem?_cons_zero, List.getElem?_cons_succ, Option.bind_some, Act.put, List.setIfInBounds_toArray, List.set_cons_zero, List.set_cons_succ] at hK ⊢
                rw [d5, d4] at hK ⊢
                go_simp
                exact hK (.bool true) _ HJ.out rfl (fun j y h => h) _ rfl
              · obtain rfl := Option.some.inj ho.symm
                have d6 : V 6 = .bool true := hdep ⟨6, .data⟩ (by simp) rfl
                have d4 : V 4 = .bool false := hdep ⟨4, .guard⟩ (by simp) rfl
                clear hdep ho hJ
                try simp only [fill, slotOf, List.size_toArray, List.length_cons, List.length_nil, Nat.reduceAdd, List.getElem?_toArray, List.getElem?_cons_zero, List.getElem?_cons_succ, Option.bind_some, Act.put, List.setIfInBounds_toArray, List.set_cons_zero, List.set_cons_succ] at hK ⊢
                rw [d6, d4] at hK ⊢
                go_simp
                exact hK (.bool true) _ HJ.out rfl (fun j y h => h) _ rfl
              · obtain rfl := Option.some.inj ho.symm
                have d7 : V 7 = .bool true := hdep ⟨7, .guard⟩ (by simp) rfl
                clear hdep ho hJ
                try simp only [fill, slotOf, List.size_toArray, List.length_cons, List.length_nil, Nat.reduceAdd, List.getElem?_toArray, List.getElem?_cons_zero, List.getElem?_cons_succ, Option.bind_some, Act.put, List.setIfInBounds_toArray, List.set_cons_zero, List.set_cons_succ] at hK ⊢
                rw [d7] at hK ⊢
                go_simp
                exact hK (.func (.func 43) #[] #[]) _ HJ.out rfl (fun j y h => h) _ rfl
              · obtain rfl := Option.some.inj ho.symm
                have d7 : V 7 = .bool true := hdep ⟨7, .guard⟩ (by simp) rfl
                clear hdep ho hJ
                try simp only [fill, slotOf, List.size_toArray, List.length_cons, List.length_nil, Nat.reduceAdd, List.getElem?_toArray, List.getElem?_cons_zero, List.getElem?_cons_succ, Option.bind_some, Act.put, List.setIfInBounds_toArray, List.set_cons_zero, List.set_cons_succ] at hK ⊢
                rw [d7] at hK ⊢
                go_simp
                exact hK (.slice (some ⟨sb, so, none⟩) n c) _ HJ.out rfl (fun j y h => h) _ rfl
              · obtain rfl := Option.some.inj ho.symm
                have d7 : V 7 = .bool true := hdep ⟨7, .guard⟩ (by simp) rfl
                clear hdep ho hJ
                try simp only [fill, slotOf, List.size_toArray, List.length_cons, List.length_nil, Nat.reduceAdd, List.getElem?_toArray, List.getElem?_cons_zero, List.getElem?_cons_succ, Option.bind_some, Act.put, List.setIfInBounds_toArray, List.set_cons_zero, List.set_cons_succ] at hK ⊢
                rw [d7] at hK ⊢
                go_simp
                exact hK (.int .i64 ((j : Int) + 1)) _ HJ.out rfl (fun j y h => h) _ rfl
              · obtain rfl := Option.some.inj ho.symm
                have d10 : V 10 = .int .i64 ((j : Int) + 1) := hdep ⟨10, .data⟩ (by simp) rfl
                have d7 : V 7 = .bool true := hdep ⟨7, .guard⟩ (by simp) rfl
                have hw1 : IntKind.i64.wrap (j : Int) = (j : Int) := IntWalk.i64_in _ (by omega)
                have hw2 : IntKind.i64.wrap ((j : Int) + 1 - 1) = (j : Int) := by rw [Int.add_sub_cancel]; exact hw1
                clear hdep ho hJ
                try simp only [fill, slotOf, List.size_toArray, List.length_cons, List.length_nil, Nat.reduceAdd, List.getElem?_toArray, List.getElem?_cons_zero, List.getElem?_cons_succ, Option.bind_some, Act.put, List.setIfInBounds_toArray, List.set_cons_zero, List.set_cons_succ] at hK ⊢
                rw [d10, d7] at hK ⊢
                go_simp
                exact hK (.int .i64 (j : Int)) _ HJ.out rfl (fun j y h => h) _ rfl
              · obtain rfl := Option.some.inj ho.symm
                have d9 : V 9 = .slice (some ⟨sb, so, none⟩) n c := hdep ⟨9, .data⟩ (by simp) rfl
                have d11 : V 11 = .int .i64 (j : Int) := hdep ⟨11, .data⟩ (by simp) rfl
                have d7 : V 7 = .bool true := hdep ⟨7, .guard⟩ (by simp) rfl
                have hjn : j < n := by omega
                have hjn2 : (j : Int) < (n : Int) := by omega
                clear hdep ho hJ
                try simp only [fill, slotOf, List.size_toArray, List.length_cons, List.length_nil, Nat.reduceAdd, List.getElem?_toArray, List.getElem?_cons_zero, List.getElem?_cons_succ, Option.bind_some, Act.put, List.setIfInBounds_toArray, List.set_cons_zero, List.set_cons_succ] at hK ⊢
                rw [d9, d11, d7] at hK ⊢
                go_simp
                exact hK (.pointer (some ⟨sb, so + j * 3, none⟩)) _ HJ.out rfl (fun j y h => h) _ rfl
              · obtain rfl := Option.some.inj ho.symm
                have d12 : V 12 = .pointer (some ⟨sb, so + j * 3, none⟩) := hdep ⟨12, .data⟩ (by simp) rfl
                have d7 : V 7 = .bool true := hdep ⟨7, .guard⟩ (by simp) rfl
                have u0 : w9.cell? ⟨sb, so + j * 3, none⟩ = some (.int .i64 y0) := (hJ.cell (p := ⟨sb, so + j * 3 + 0, none⟩) HSL.out).trans (HSY.out 0 _ rfl)
                have u1 : w9.cell? ⟨sb, so + j * 3 + 1, none⟩ = some (.int .i64 y1) := (hJ.cell (p := ⟨sb, so + j * 3 + 1, none⟩) HSL.out).trans (HSY.out 1 _ rfl)
                have u2 : w9.cell? ⟨sb, so + j * 3 + 2, none⟩ = some (.int .i64 y2) := (hJ.cell (p := ⟨sb, so + j * 3 + 2, none⟩) HSL.out).trans (HSY.out 2 _ rfl)
                clear hdep ho hJ
                try simp only [fill, slotOf, List.size_toArray, List.length_cons, List.length_nil, Nat.reduceAdd, List.getElem?_toArray, List.getElem?_cons_zero, List.getElem?_cons_succ, Option.bind_some, Act.put, List.setIfInBounds_toArray, List.set_cons_zero, List.set_cons_succ] at hK ⊢
                rw [d12, d7] at hK ⊢
                go_simp
                exact hK (.agg #[.int .i64 y0, .int .i64 y1, .int .i64 y2]) _ HJ.out rfl (fun j y h => h) _ rfl
              · obtain rfl := Option.some.inj ho.symm
                have d7 : V 7 = .bool true := hdep ⟨7, .guard⟩ (by simp) rfl
                have e0 : w9.cell? ⟨wr.heap.size, 0, none⟩ = some (.int .i64 x0) := (hJ.cell (p := ⟨wr.heap.size, 0, none⟩) HXL.out).trans (cell_blk HXA.out rfl)
                have e1 : w9.cell? ⟨wr.heap.size, 1, none⟩ = some (.int .i64 x1) := (hJ.cell (p := ⟨wr.heap.size, 1, none⟩) HXL.out).trans (cell_blk HXA.out rfl)
                have e2 : w9.cell? ⟨wr.heap.size, 2, none⟩ = some (.int .i64 x2) := (hJ.cell (p := ⟨wr.heap.size, 2, none⟩) HXL.out).trans (cell_blk HXA.out rfl)
                clear hdep ho hJ
                try simp only [fill, slotOf, List.size_toArray, List.length_cons, List.length_nil, Nat.reduceAdd, List.getElem?_toArray, List.getElem?_cons_zero, List.getElem?_cons_succ, Option.bind_some, Act.put, List.setIfInBounds_toArray, List.set_cons_zero, List.set_cons_succ] at hK ⊢
                rw [d7] at hK ⊢
                go_simp
                exact hK (.agg #[.int .i64 x0, .int .i64 x1, .int .i64 x2]) _ HJ.out rfl (fun j y h => h) _ rfl
              · obtain rfl := Option.some.inj ho.symm
                have d8 : V 8 = .func (.func 43) #[] #[] := hdep ⟨8, .data⟩ (by simp) rfl
                have d13 : V 13 = .agg #[.int .i64 y0, .int .i64 y1, .int .i64 y2] := hdep ⟨13, .data⟩ (by simp) rfl
                have d14 : V 14 = .agg #[.int .i64 x0, .int .i64 x1, .int .i64 x2] := hdep ⟨14, .data⟩ (by simp) rfl
                have d7 : V 7 = .bool true := hdep ⟨7, .guard⟩ (by simp) rfl
                clear hdep ho hJ
                try simp only [fill, slotOf, List.size_toArray, List.length_cons, List.length_nil, Nat.reduceAdd, List.getElem?_toArray, List.getElem?_cons_zero, List.getElem?_cons_succ, Option.bind_some, Act.put, List.setIfInBounds_toArray, List.set_cons_zero, List.set_cons_succ] at hK ⊢
                rw [d8, d13, d14, d7] at hK ⊢
                go_simp
                refine (HCM.out w9).mono ?_
                rintro e w8 ⟨rfl, hb8⟩
                exact hK (.int .i64 zz) _ (HJ.out.trans (hb8.mono HJ.out.size)) rfl (FV.mono ((fun _ _ _ => trivial) hb8)) _ rfl
              · obtain rfl := Option.some.inj ho.symm
                have d15 : V 15 = .int .i64 zz := hdep ⟨15, .data⟩ (by simp) rfl
                have d7 : V 7 = .bool true := hdep ⟨7, .guard⟩ (by simp) rfl
                have hz9 : decide (zz ≥ 0) = false := HZ.out
                clear hdep ho hJ
                try simp only [fill, slotOf, List.size_toArray, List.length_cons, List.length_nil, Nat.reduceAdd, List.getElem?_toArray, List.getElem?_cons_zero, List.getElem?_cons_succ, Option.bind_some, Act.put, List.setIfInBounds_toArray, List.set_cons_zero, List.set_cons_succ] at hK ⊢
                rw [d15, d7] at hK ⊢
                go_simp
                exact hK (.bool false) _ HJ.out rfl (fun j y h => h) _ rfl
              · obtain rfl := Option.some.inj ho.symm
                have d7 : V 7 = .bool true := hdep ⟨7, .data⟩ (by simp) rfl
                have d16 : V 16 = .bool false := hdep ⟨16, .data⟩ (by simp) rfl
                have d4 : V 4 = .bool false := hdep ⟨4, .guard⟩ (by simp) rfl
                clear hdep ho hJ
                try simp only [fill, slotOf, List.size_toArray, List.length_cons, List.length_nil, Nat.reduceAdd, List.getElem?_toArray, List.getElem?_cons_zero, List.getElem?_cons_succ, Option.bind_some, Act.put, List.setIfInBounds_toArray, List.set_cons_zero, List.set_cons_succ] at hK ⊢
                rw [d7, d16, d4] at hK ⊢
                go_simp
                exact hK (.bool false) _ HJ.out rfl (fun j y h => h) _ rfl
              · obtain rfl := Option.some.inj ho.symm
                have d4 : V 4 = .bool false := hdep ⟨4, .data⟩ (by simp) rfl
                have d17 : V 17 = .bool false := hdep ⟨17, .data⟩ (by simp) rfl
                clear hdep ho hJ
                try simp only [fill, slotOf, List.size_toArray, List.length_cons, List.length_nil, Nat.reduceAdd, List.getElem?_toArray, List.getElem?_cons_zero, List.getElem?_cons_succ, Option.bind_some, Act.put, List.setIfInBounds_toArray, List.set_cons_zero, List.set_cons_succ] at hK ⊢
                rw [d4, d17] at hK ⊢
                go_simp
                exact hK (.bool false) _ HJ.out rfl (fun j y h => h) _ rfl
            · intro V w9 hJ hall
              have dL : V 18 = .bool false := hall 18 (by decide)
              have HJ9 := Lib.hid hJ
              clear hall hJ
              simp only [fill, slotOf, List.size_toArray, List.length_cons, List.length_nil, Nat.reduceAdd, List.getElem?_toArray, List.getElem?_cons_zero, List.getElem?_cons_succ, Option.bind_some, Act.put, List.setIfInBounds_toArray, List.set_cons_zero, List.set_cons_succ]
              rw [dL]
              clear dL
              have HBZ := Lib.hid (HAL.out.trans (HJ9.out.mono HAL.out.size))
              go_wp2_with fail
              go_roundw
              case rel => exact ⟨j + 1 + 1, by omega, by go_num, HOK2, HBZ⟩
              case measure => simp [intOf]; omega
    · obtain rfl : k = n := by omega
      have HY := Lib.hid (RisIs.yes HOK.out)
      clear hkn
      go_wp2_with fail
      go_ret
      exact ⟨HY.out, HB.out⟩

end Go.Proofs.YtbdgcfimbblncaaGreatDoor
end PkMR6_0
