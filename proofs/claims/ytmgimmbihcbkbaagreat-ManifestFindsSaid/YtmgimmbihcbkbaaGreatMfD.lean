/- Manifests: what layer 13's fixed edit meets ahead of its making, walked. Written by genmfd.py. -/
import Derived.Test.YtmgimmbihcbkbaaGreatMfC
import Derived.Test.YtmgimmbihcbkbaaGreatFV
import Derived.Test.YtmgimmbihcbkbaaGreatAnyOrd
namespace Go.Proofs.YtmgimmbihcbkbaaGreat
open Go.RowKit LabPlain
set_option linter.unusedVariables false

theorem mark_info : (Tryz.prog.info? 44).map (fun i => (i.zero, i.size, i.bytes)) = some (some (.agg #[.int .i64 0, .int .i64 0]), 2, 16) := by kernel_rfl
theorem own_info : (Tryz.prog.info? 28).map (fun i => (i.zero, i.size, i.bytes)) = some (some (.agg #[.int .i64 0, .int .i64 0, .int .i64 0]), 3, 24) := by kernel_rfl

set_option maxRecDepth 100000 in
set_option maxHeartbeats 4000000 in
theorem rising_one {w : World} {a : Option Addr} {c : Nat} {x y : Int} (h : VecAt MarkS w a 1 c [(x, y)]) (h1 : 1 ≤ x ∧ x ≤ 64) (h2 : 1 ≤ y ∧ y ≤ 1099511627775) (cf : Value) :
    Calls Tryz.prog 39 #[.slice a 1 c, cf, .func (.func 40) #[] #[]] w fun e w' => e = .returned (.bool true) ∧ Below w.heap.size w w' := by
  have hcap := h.cap
  have hcm := h.capm
  have HR1 := Lib.hid h1
  have HR2 := Lib.hid h2
  have HH := Lib.hid h
  clear h h1 h2
  go_enter Tryz.func39, Tryz.ntmps39
  go_wp2_with fail
  go_loopw [7, 8, 11] (fun _ _ s11 wr => ∃ k : Nat, k ≤ 1 ∧ s11 = .int .i64 (k : Int) ∧ Hid (Below w.heap.size w wr)) (fun _ _ s11 _ => 1 - (intOf s11).toNat)
  case atStart => exact ⟨0, by omega, rfl, Lib.hid (Below.refl _ _)⟩
  case round =>
    obtain ⟨k, hk, rfl, HB⟩ := hrel
    rename World => wr
    by_cases hkn : k = 0
    · subst hkn
      obtain ⟨sb, so, rfl, hsl, _, hsc9⟩ := (HH.out.kept HB.out).get (show 0 < 1 by omega)
      have d0 : wr.cell? ⟨sb, so, none⟩ = some (.int .i64 x) := by simpa using hsc9 0 _ rfl
      have d1 : wr.cell? ⟨sb, so + 1, none⟩ = some (.int .i64 y) := by simpa using hsc9 1 _ rfl
      have HXA := Lib.hid (heap_alloc_new wr (.cells #[.int .i64 x, .int .i64 y] 44))
      have HXL := Lib.hid ((Array.getElem?_eq_some_iff.1 (heap_alloc_new wr (.cells #[.int .i64 x, .int .i64 y] 44))).1)
      have HAL := Lib.hid (show Below w.heap.size w (wr.alloc (.cells #[.int .i64 x, .int .i64 y] 44)) from HB.out.alloc HB.out.size _)
      clear hsc9 hsl
      go_wp2_with fail
      refine wp_region_fill (by kernel_rfl) (by kernel_rfl) (by kernel_rfl) (Below (wr.alloc (.cells #[.int .i64 x, .int .i64 y] 44)).heap.size (wr.alloc (.cells #[.int .i64 x, .int .i64 y] 44))) (FV (fun j_9 => match j_9 with | 0 => some (.func (.func 40) #[] #[]) | 1 => some (.agg #[.int .i64 x, .int .i64 y]) | 2 => some (.bool true) | 3 => some (.bool false) | 4 => some (.bool false) | 5 => some (.int .i64 0) | 6 => some (.bool false) | 7 => some (.bool false) | 8 => some (undef) | 9 => some (undef) | 10 => some (undef) | 11 => some (undef) | 12 => some (undef) | 13 => some (undef) | 14 => some (undef) | 15 => some (undef) | 16 => some (undef) | 17 => some (.bool false) | 18 => some (.bool false) | _ => none) (fun _ _ => True)) (Below.refl _ _).drew ?_ ?_
      · intro i9 o ho V w9 K hJ hdep hK
        have HJ := Lib.hid hJ
        simp only [fill, slotOf, List.size_toArray, List.length_cons, List.length_nil, Nat.reduceAdd, List.getElem?_toArray, List.getElem?_cons_zero, List.getElem?_cons_succ, Option.bind_some, Act.put, List.setIfInBounds_toArray, List.set_cons_zero, List.set_cons_succ] at hK ⊢
        have hin : i9 < 19 := (Array.getElem?_eq_some_iff.1 ho).1
        have hcs : i9 = 0 ∨ i9 = 1 ∨ i9 = 2 ∨ i9 = 3 ∨ i9 = 4 ∨ i9 = 5 ∨ i9 = 6 ∨ i9 = 7 ∨ i9 = 8 ∨ i9 = 9 ∨ i9 = 10 ∨ i9 = 11 ∨ i9 = 12 ∨ i9 = 13 ∨ i9 = 14 ∨ i9 = 15 ∨ i9 = 16 ∨ i9 = 17 ∨ i9 = 18 := by omega
        clear hin
        rcases hcs with rfl | rfl | rfl | rfl | rfl | rfl | rfl | rfl | rfl | rfl | rfl | rfl | rfl | rfl | rfl | rfl | rfl | rfl | rfl
        · obtain rfl := Option.some.inj ho.symm
          clear hdep ho hJ
          try simp only [fill, slotOf, List.size_toArray, List.length_cons, List.length_nil, Nat.reduceAdd, List.getElem?_toArray, List.getElem?_cons_zero, List.getElem?_cons_succ, Option.bind_some, Act.put, List.setIfInBounds_toArray, List.set_cons_zero, List.set_cons_succ] at hK ⊢
          go_simp
          exact hK (.func (.func 40) #[] #[]) _ HJ.out rfl (fun j y h => h) _ rfl
        · obtain rfl := Option.some.inj ho.symm
          have e0 : w9.cell? ⟨wr.heap.size, 0, none⟩ = some (.int .i64 x) := (hJ.cell (p := ⟨wr.heap.size, 0, none⟩) HXL.out).trans (cell_blk HXA.out rfl)
          have e1 : w9.cell? ⟨wr.heap.size, 1, none⟩ = some (.int .i64 y) := (hJ.cell (p := ⟨wr.heap.size, 1, none⟩) HXL.out).trans (cell_blk HXA.out rfl)
          clear hdep ho hJ
          try simp only [fill, slotOf, List.size_toArray, List.length_cons, List.length_nil, Nat.reduceAdd, List.getElem?_toArray, List.getElem?_cons_zero, List.getElem?_cons_succ, Option.bind_some, Act.put, List.setIfInBounds_toArray, List.set_cons_zero, List.set_cons_succ] at hK ⊢
          go_simp
          exact hK (.agg #[.int .i64 x, .int .i64 y]) _ HJ.out rfl (fun j y h => h) _ rfl
        · obtain rfl := Option.some.inj ho.symm
          have d0 : V 0 = .func (.func 40) #[] #[] := hdep ⟨0, .data⟩ (by simp) rfl
          have d1 : V 1 = .agg #[.int .i64 x, .int .i64 y] := hdep ⟨1, .data⟩ (by simp) rfl
          clear hdep ho hJ
          try simp only [fill, slotOf, List.size_toArray, List.length_cons, List.length_nil, Nat.reduceAdd, List.getElem?_toArray, List.getElem?_cons_zero, List.getElem?_cons_succ, Option.bind_some, Act.put, List.setIfInBounds_toArray, List.set_cons_zero, List.set_cons_succ] at hK ⊢
          rw [d0, d1] at hK ⊢
          go_simp
          refine (rightMark_yes HR1.out HR2.out w9).mono ?_
          rintro e w8 ⟨rfl, hb8⟩
          exact hK (.bool true) _ (HJ.out.trans (hb8.mono HJ.out.size)) rfl (FV.mono ((fun _ _ _ => trivial) hb8)) _ rfl
        · obtain rfl := Option.some.inj ho.symm
          have d2 : V 2 = .bool true := hdep ⟨2, .data⟩ (by simp) rfl
          clear hdep ho hJ
          try simp only [fill, slotOf, List.size_toArray, List.length_cons, List.length_nil, Nat.reduceAdd, List.getElem?_toArray, List.getElem?_cons_zero, List.getElem?_cons_succ, Option.bind_some, Act.put, List.setIfInBounds_toArray, List.set_cons_zero, List.set_cons_succ] at hK ⊢
          rw [d2] at hK ⊢
          go_simp
          exact hK (.bool false) _ HJ.out rfl (fun j y h => h) _ rfl
        · obtain rfl := Option.some.inj ho.symm
          have d3 : V 3 = .bool false := hdep ⟨3, .data⟩ (by simp) rfl
          clear hdep ho hJ
          try simp only [fill, slotOf, List.size_toArray, List.length_cons, List.length_nil, Nat.reduceAdd, List.getElem?_toArray, List.getElem?_cons_zero, List.getElem?_cons_succ, Option.bind_some, Act.put, List.setIfInBounds_toArray, List.set_cons_zero, List.set_cons_succ] at hK ⊢
          rw [d3] at hK ⊢
          go_simp
          exact hK (.bool false) _ HJ.out rfl (fun j y h => h) _ rfl
        · obtain rfl := Option.some.inj ho.symm
          have d4 : V 4 = .bool false := hdep ⟨4, .guard⟩ (by simp) rfl
          clear hdep ho hJ
          try simp only [fill, slotOf, List.size_toArray, List.length_cons, List.length_nil, Nat.reduceAdd, List.getElem?_toArray, List.getElem?_cons_zero, List.getElem?_cons_succ, Option.bind_some, Act.put, List.setIfInBounds_toArray, List.set_cons_zero, List.set_cons_succ] at hK ⊢
          rw [d4] at hK ⊢
          go_simp
          exact hK (.int .i64 0) _ HJ.out rfl (fun j y h => h) _ rfl
        · obtain rfl := Option.some.inj ho.symm
          have d5 : V 5 = .int .i64 0 := hdep ⟨5, .data⟩ (by simp) rfl
          have d4 : V 4 = .bool false := hdep ⟨4, .guard⟩ (by simp) rfl
          clear hdep ho hJ
          try simp only [fill, slotOf, List.size_toArray, List.length_cons, List.length_nil, Nat.reduceAdd, List.getElem?_toArray, List.getElem?_cons_zero, List.getElem?_cons_succ, Option.bind_some, Act.put, List.setIfInBounds_toArray, List.set_cons_zero, List.set_cons_succ] at hK ⊢
          rw [d5, d4] at hK ⊢
          go_simp
          exact hK (.bool false) _ HJ.out rfl (fun j y h => h) _ rfl
        · obtain rfl := Option.some.inj ho.symm
          have d6 : V 6 = .bool false := hdep ⟨6, .data⟩ (by simp) rfl
          have d4 : V 4 = .bool false := hdep ⟨4, .guard⟩ (by simp) rfl
          clear hdep ho hJ
          try simp only [fill, slotOf, List.size_toArray, List.length_cons, List.length_nil, Nat.reduceAdd, List.getElem?_toArray, List.getElem?_cons_zero, List.getElem?_cons_succ, Option.bind_some, Act.put, List.setIfInBounds_toArray, List.set_cons_zero, List.set_cons_succ] at hK ⊢
          rw [d6, d4] at hK ⊢
          go_simp
          exact hK (.bool false) _ HJ.out rfl (fun j y h => h) _ rfl
        · obtain rfl := Option.some.inj ho.symm
          have d7 : V 7 = .bool false := hdep ⟨7, .guard⟩ (by simp) rfl
          clear hdep ho hJ
          try simp only [fill, slotOf, List.size_toArray, List.length_cons, List.length_nil, Nat.reduceAdd, List.getElem?_toArray, List.getElem?_cons_zero, List.getElem?_cons_succ, Option.bind_some, Act.put, List.setIfInBounds_toArray, List.set_cons_zero, List.set_cons_succ] at hK ⊢
          rw [d7] at hK ⊢
          go_simp
          exact hK (undef) _ HJ.out rfl (fun j y h => h) _ rfl
        · obtain rfl := Option.some.inj ho.symm
          have d7 : V 7 = .bool false := hdep ⟨7, .guard⟩ (by simp) rfl
          clear hdep ho hJ
          try simp only [fill, slotOf, List.size_toArray, List.length_cons, List.length_nil, Nat.reduceAdd, List.getElem?_toArray, List.getElem?_cons_zero, List.getElem?_cons_succ, Option.bind_some, Act.put, List.setIfInBounds_toArray, List.set_cons_zero, List.set_cons_succ] at hK ⊢
          rw [d7] at hK ⊢
          go_simp
          exact hK (undef) _ HJ.out rfl (fun j y h => h) _ rfl
        · obtain rfl := Option.some.inj ho.symm
          have d7 : V 7 = .bool false := hdep ⟨7, .guard⟩ (by simp) rfl
          clear hdep ho hJ
          try simp only [fill, slotOf, List.size_toArray, List.length_cons, List.length_nil, Nat.reduceAdd, List.getElem?_toArray, List.getElem?_cons_zero, List.getElem?_cons_succ, Option.bind_some, Act.put, List.setIfInBounds_toArray, List.set_cons_zero, List.set_cons_succ] at hK ⊢
          rw [d7] at hK ⊢
          go_simp
          exact hK (undef) _ HJ.out rfl (fun j y h => h) _ rfl
        · obtain rfl := Option.some.inj ho.symm
          have d7 : V 7 = .bool false := hdep ⟨7, .guard⟩ (by simp) rfl
          clear hdep ho hJ
          try simp only [fill, slotOf, List.size_toArray, List.length_cons, List.length_nil, Nat.reduceAdd, List.getElem?_toArray, List.getElem?_cons_zero, List.getElem?_cons_succ, Option.bind_some, Act.put, List.setIfInBounds_toArray, List.set_cons_zero, List.set_cons_succ] at hK ⊢
          rw [d7] at hK ⊢
          go_simp
          exact hK (undef) _ HJ.out rfl (fun j y h => h) _ rfl
        · obtain rfl := Option.some.inj ho.symm
          have d7 : V 7 = .bool false := hdep ⟨7, .guard⟩ (by simp) rfl
          clear hdep ho hJ
          try simp only [fill, slotOf, List.size_toArray, List.length_cons, List.length_nil, Nat.reduceAdd, List.getElem?_toArray, List.getElem?_cons_zero, List.getElem?_cons_succ, Option.bind_some, Act.put, List.setIfInBounds_toArray, List.set_cons_zero, List.set_cons_succ] at hK ⊢
          rw [d7] at hK ⊢
          go_simp
          exact hK (undef) _ HJ.out rfl (fun j y h => h) _ rfl
        · obtain rfl := Option.some.inj ho.symm
          have d7 : V 7 = .bool false := hdep ⟨7, .guard⟩ (by simp) rfl
          clear hdep ho hJ
          try simp only [fill, slotOf, List.size_toArray, List.length_cons, List.length_nil, Nat.reduceAdd, List.getElem?_toArray, List.getElem?_cons_zero, List.getElem?_cons_succ, Option.bind_some, Act.put, List.setIfInBounds_toArray, List.set_cons_zero, List.set_cons_succ] at hK ⊢
          rw [d7] at hK ⊢
          go_simp
          exact hK (undef) _ HJ.out rfl (fun j y h => h) _ rfl
        · obtain rfl := Option.some.inj ho.symm
          have d7 : V 7 = .bool false := hdep ⟨7, .guard⟩ (by simp) rfl
          clear hdep ho hJ
          try simp only [fill, slotOf, List.size_toArray, List.length_cons, List.length_nil, Nat.reduceAdd, List.getElem?_toArray, List.getElem?_cons_zero, List.getElem?_cons_succ, Option.bind_some, Act.put, List.setIfInBounds_toArray, List.set_cons_zero, List.set_cons_succ] at hK ⊢
          rw [d7] at hK ⊢
          go_simp
          exact hK (undef) _ HJ.out rfl (fun j y h => h) _ rfl
        · obtain rfl := Option.some.inj ho.symm
          have d7 : V 7 = .bool false := hdep ⟨7, .guard⟩ (by simp) rfl
          clear hdep ho hJ
          try simp only [fill, slotOf, List.size_toArray, List.length_cons, List.length_nil, Nat.reduceAdd, List.getElem?_toArray, List.getElem?_cons_zero, List.getElem?_cons_succ, Option.bind_some, Act.put, List.setIfInBounds_toArray, List.set_cons_zero, List.set_cons_succ] at hK ⊢
          rw [d7] at hK ⊢
          go_simp
          exact hK (undef) _ HJ.out rfl (fun j y h => h) _ rfl
        · obtain rfl := Option.some.inj ho.symm
          have d7 : V 7 = .bool false := hdep ⟨7, .guard⟩ (by simp) rfl
          clear hdep ho hJ
          try simp only [fill, slotOf, List.size_toArray, List.length_cons, List.length_nil, Nat.reduceAdd, List.getElem?_toArray, List.getElem?_cons_zero, List.getElem?_cons_succ, Option.bind_some, Act.put, List.setIfInBounds_toArray, List.set_cons_zero, List.set_cons_succ] at hK ⊢
          rw [d7] at hK ⊢
          go_simp
          exact hK (undef) _ HJ.out rfl (fun j y h => h) _ rfl
        · obtain rfl := Option.some.inj ho.symm
          have d7 : V 7 = .bool false := hdep ⟨7, .data⟩ (by simp) rfl
          have d16 : V 16 = undef := hdep ⟨16, .data⟩ (by simp) rfl
          have d4 : V 4 = .bool false := hdep ⟨4, .guard⟩ (by simp) rfl
          clear hdep ho hJ
          try simp only [fill, slotOf, List.size_toArray, List.length_cons, List.length_nil, Nat.reduceAdd, List.getElem?_toArray, List.getElem?_cons_zero, List.getElem?_cons_succ, Option.bind_some, Act.put, List.setIfInBounds_toArray, List.set_cons_zero, List.set_cons_succ] at hK ⊢
          rw [d7, d16, d4] at hK ⊢
          go_simp
          exact hK (.bool false) _ HJ.out rfl (fun j y h => h) _ rfl
        · obtain rfl := Option.some.inj ho.symm
          have d4 : V 4 = .bool false := hdep ⟨4, .data⟩ (by simp) rfl
          have d17 : V 17 = .bool false := hdep ⟨17, .data⟩ (by simp) rfl
          clear hdep ho hJ
          try simp only [fill, slotOf, List.size_toArray, List.length_cons, List.length_nil, Nat.reduceAdd, List.getElem?_toArray, List.getElem?_cons_zero, List.getElem?_cons_succ, Option.bind_some, Act.put, List.setIfInBounds_toArray, List.set_cons_zero, List.set_cons_succ] at hK ⊢
          rw [d4, d17] at hK ⊢
          go_simp
          exact hK (.bool false) _ HJ.out rfl (fun j y h => h) _ rfl
      · intro V w9 hJ hall
        have dL : V 18 = .bool false := hall 18 (by decide)
        have HJ9 := Lib.hid hJ
        clear hall hJ
        simp only [fill, slotOf, List.size_toArray, List.length_cons, List.length_nil, Nat.reduceAdd, List.getElem?_toArray, List.getElem?_cons_zero, List.getElem?_cons_succ, Option.bind_some, Act.put, List.setIfInBounds_toArray, List.set_cons_zero, List.set_cons_succ]
        rw [dL]
        clear dL
        have HBZ := Lib.hid (HAL.out.trans (HJ9.out.mono HAL.out.size))
        go_wp2_with fail
        go_roundw
        case rel => exact ⟨1, by omega, rfl, HBZ⟩
        case measure => simp [intOf]
    · obtain rfl : k = 1 := by omega
      go_wp2_with fail
      go_ret
      exact ⟨rfl, HB.out⟩
set_option maxRecDepth 100000 in
theorem right_zero (w : World) : Calls Tryz.prog 19 #[.agg #[.int .i64 0, .int .i64 0, .int .i64 0, .slice none 0 0, .slice none 0 0, .slice none 0 0]] w fun e w' => e = .returned (.bool true) ∧ Below w.heap.size w w' := by
  have HB := Lib.hid ((Below.refl w.heap.size w).alloc (Nat.le_refl _) (.cells #[.int .i64 0, .int .i64 0, .int .i64 0, .slice none 0 0, .slice none 0 0, .slice none 0 0] 26))
  go_enter Tryz.func19, Tryz.ntmps19
  go_wp2_with fail
  refine (within_yes (by omega) (by omega) _).mono ?_
  rintro e w1 ⟨rfl, rfl⟩
  go_wp2_with fail
  refine (within_yes (by omega) (by omega) _).mono ?_
  rintro e w1 ⟨rfl, rfl⟩
  go_wp2_with fail
  refine (within_yes (by omega) (by omega) _).mono ?_
  rintro e w1 ⟨rfl, rfl⟩
  go_wp2_with fail
  refine (rising_nilE none 0 _ _ _).mono ?_
  rintro e w1 ⟨rfl, rfl⟩
  go_wp2_with fail
  refine (rising_nilM none 0 _ _ _).mono ?_
  rintro e w1 ⟨rfl, rfl⟩
  go_wp2_with fail
  refine (rising_nilO none 0 _ _ _).mono ?_
  rintro e w1 ⟨rfl, rfl⟩
  go_wp2_with fail
  go_ret
  exact ⟨rfl, HB.out⟩

@[go_sem] theorem eql_nilM (w : World) (n c n' c' : Nat) : (binOp .eql 23 (.slice none n c) (.slice none n' c')).run Tryz.prog w = .ok (.bool true) w := Lib.run_eql_slice_nil w _ _ none n c n' c' Tryz.underlying23
set_option maxRecDepth 100000 in
theorem clone_nilM (w : World) : Calls Tryz.prog 27 #[.slice none 0 0] w fun e w' => e = .returned (.slice none 0 0) ∧ w' = w := by
  go_enter Tryz.func27, Tryz.ntmps27
  go_wp2_with fail
  go_ret
  exact ⟨rfl, rfl⟩
set_option maxRecDepth 100000 in
theorem bsf_nilM (x y : Int) (f : Value) (w : World) : Calls Tryz.prog 53 #[.slice none 0 0, .agg #[.int .i64 x, .int .i64 y], f] w fun e w' => e = .returned (.tuple #[.int .i64 0, .bool false]) ∧ Below w.heap.size w w' := by
  have HB := Lib.hid ((Below.refl w.heap.size w).alloc (Nat.le_refl _) (.cells #[.int .i64 x, .int .i64 y] 44))
  go_enter Tryz.func53, Tryz.ntmps53
  go_wp2_with fail
  refine wp_loop_rounds 1 ?_
  rw [rounds_succ]
  go_wp2_with fail
  go_region
  go_wp2_with fail
  first | go_ret2 | go_ret
  exact ⟨rfl, HB.out.drew⟩
set_option maxRecDepth 100000 in
set_option maxHeartbeats 1000000 in
theorem insert_nilM {w : World} {g c : Nat} {x y : Int} (h : VecAt MarkS w (some ⟨g, 0, none⟩) 1 c [(x, y)]) : Calls Tryz.prog 54 #[.slice none 0 0, .int .i64 0, .slice (some ⟨g, 0, none⟩) 1 c] w fun e w' => ∃ g' c', e = .returned (.slice (some ⟨g', 0, none⟩) 1 c') ∧ w.heap.size ≤ g' ∧ VecAt MarkS w' (some ⟨g', 0, none⟩) 1 c' [(x, y)] ∧ Below w.heap.size w w' := by
  obtain ⟨i0, ii, iz0, iz1, iz2⟩ := info_parts mark_info
  have hcap := h.cap
  have hcm := h.capm
  have HSRC := Lib.hid h.src
  have HO := Lib.hid (World.ownsRow_nil w w.heap.size 44 2)
  clear h
  go_enter Tryz.func54, Tryz.ntmps54
  go_wp2_with (at_builtin; refine wpList_append_own_at _ rfl (.tmp 23) (.tmp 24) 23 rfl w.heap.size 44 i0 _ 2 16 Tryz.underlying23 ii iz0 iz1 iz2 rfl (by decide) _ 0 _ rfl HO.out ⟨g, 0, none⟩ 1 c (MarkS.flat [(x, y)]) rfl rfl HSRC.out (MarkS.flat_one _) (by unfold maxLen; omega) (by omega) (Nat.le_refl _) ?_)
  intro v w1 ho hg _ _
  have hv : ∃ g' c', v = .slice (some ⟨g', 0, none⟩) 1 c' ∧ w.heap.size ≤ g' := by
    rcases ho.2 with ⟨_, h0⟩ | ⟨g', cap, cur, rfl, hb, _⟩
    · simp at h0
    · exact ⟨g', cap, rfl, hb⟩
  obtain ⟨g', c', rfl, hge⟩ := hv
  have HV := Lib.hid (show VecAt MarkS w1 (some ⟨g', 0, none⟩) 1 c' [(x, y)] from VecAt.ofOwn (S := MarkS) ho rfl (fun _ _ => trivial))
  have HB := Lib.hid (below_own (Below.refl _ _) HO.out hg (Nat.le_refl _) (Nat.le_refl _))
  have HG := Lib.hid hge
  clear ho hg hge
  go_wp2_with fail
  go_ret
  exact ⟨g', c', rfl, HG.out, HV.out, HB.out⟩
set_option maxRecDepth 100000 in
set_option maxHeartbeats 1000000 in
theorem put_nilM (x y : Int) (f : Value) (w : World) : Calls Tryz.prog 28 #[.slice none 0 0, .agg #[.int .i64 x, .int .i64 y], f] w fun e w' => ∃ g c, e = .returned (.slice (some ⟨g, 0, none⟩) 1 c) ∧ w.heap.size ≤ g ∧ VecAt MarkS w' (some ⟨g, 0, none⟩) 1 c [(x, y)] ∧ Below w.heap.size w w' := by
  obtain ⟨wa, hwa⟩ : ∃ wa, wa = w.alloc (.cells #[.int .i64 x, .int .i64 y] 44) := ⟨_, rfl⟩
  have ba : Below w.heap.size w wa := by rw [hwa]; exact (Below.refl _ _).alloc (Nat.le_refl _) _
  have ga : wa.heap[w.heap.size]? = some (.cells #[.int .i64 x, .int .i64 y] 44 (0, 0)) := by rw [hwa]; exact heap_alloc_new _ _
  have HBA := Lib.hid ba
  have HGA := Lib.hid ga
  have HWA := Lib.hid hwa
  have HBS := Lib.hid (bsf_nilM x y f wa)
  clear hwa ba ga
  go_enter Tryz.func28, Tryz.ntmps28
  go_wp2_with fail
  rw [← HWA.out]
  refine HBS.out.mono ?_
  rintro e w1 ⟨rfl, hb1⟩
  have HB1 := Lib.hid (HBA.out.trans (hb1.mono HBA.out.size))
  have hg1 := (hb1.block w.heap.size (Array.getElem?_eq_some_iff.1 HGA.out).1).trans HGA.out
  have c0 : w1.cell? ⟨w.heap.size, 0, none⟩ = some (.int .i64 x) := cell_blk hg1 rfl
  have c1 : w1.cell? ⟨w.heap.size, 1, none⟩ = some (.int .i64 y) := cell_blk hg1 rfl
  obtain ⟨w2, hw2⟩ : ∃ w2, w2 = w1.alloc (.cells #[.int .i64 x, .int .i64 y] 44) := ⟨_, rfl⟩
  have HB2 := Lib.hid (show Below w.heap.size w w2 from by rw [hw2]; exact HB1.out.alloc HB1.out.size _)
  have HV2 := Lib.hid (show VecAt MarkS w2 (some ⟨w1.heap.size, 0, none⟩) 1 1 [(x, y)] from by
    rw [hw2]
    exact VecAt.ofOwn (S := MarkS) (World.ownsRow_lit (base := w1.heap.size) (e := 44) (size := 2) w1 #[.int .i64 x, .int .i64 y] 1 (Nat.le_refl _) (by unfold maxLen; omega) rfl) rfl (fun _ _ => trivial))
  have HW2 := Lib.hid hw2
  have HIN := Lib.hid (insert_nilM HV2.out)
  clear hb1 hg1 hw2
  go_wp2_with fail
  rw [← HW2.out]
  refine HIN.out.mono ?_
  rintro e w3 ⟨g, c, rfl, hge, hv, hb⟩
  have HB3 := Lib.hid (HB2.out.trans (hb.mono HB2.out.size))
  have HV := Lib.hid hv
  have HG := Lib.hid (Nat.le_trans HB2.out.size hge)
  clear hge hv hb
  go_wp2_with fail
  go_ret
  exact ⟨g, c, rfl, HG.out, HV.out, HB3.out⟩

@[go_sem] theorem eql_nilO (w : World) (n c n' c' : Nat) : (binOp .eql 24 (.slice none n c) (.slice none n' c')).run Tryz.prog w = .ok (.bool true) w := Lib.run_eql_slice_nil w _ _ none n c n' c' Tryz.underlying24
set_option maxRecDepth 100000 in
theorem clone_nilO (w : World) : Calls Tryz.prog 30 #[.slice none 0 0] w fun e w' => e = .returned (.slice none 0 0) ∧ w' = w := by
  go_enter Tryz.func30, Tryz.ntmps30
  go_wp2_with fail
  go_ret
  exact ⟨rfl, rfl⟩
set_option maxRecDepth 100000 in
theorem bsf_nilO (x y z : Int) (f : Value) (w : World) : Calls Tryz.prog 55 #[.slice none 0 0, .agg #[.int .i64 x, .int .i64 y, .int .i64 z], f] w fun e w' => e = .returned (.tuple #[.int .i64 0, .bool false]) ∧ Below w.heap.size w w' := by
  have HB := Lib.hid ((Below.refl w.heap.size w).alloc (Nat.le_refl _) (.cells #[.int .i64 x, .int .i64 y, .int .i64 z] 28))
  go_enter Tryz.func55, Tryz.ntmps55
  go_wp2_with fail
  refine wp_loop_rounds 1 ?_
  rw [rounds_succ]
  go_wp2_with fail
  go_region
  go_wp2_with fail
  first | go_ret2 | go_ret
  exact ⟨rfl, HB.out.drew⟩
set_option maxRecDepth 100000 in
set_option maxHeartbeats 1000000 in
theorem insert_nilO {w : World} {g c : Nat} {x y z : Int} (h : VecAt OwnS w (some ⟨g, 0, none⟩) 1 c [(x, y, z)]) : Calls Tryz.prog 56 #[.slice none 0 0, .int .i64 0, .slice (some ⟨g, 0, none⟩) 1 c] w fun e w' => ∃ g' c', e = .returned (.slice (some ⟨g', 0, none⟩) 1 c') ∧ w.heap.size ≤ g' ∧ VecAt OwnS w' (some ⟨g', 0, none⟩) 1 c' [(x, y, z)] ∧ Below w.heap.size w w' := by
  obtain ⟨i0, ii, iz0, iz1, iz2⟩ := info_parts own_info
  have hcap := h.cap
  have hcm := h.capm
  have HSRC := Lib.hid h.src
  have HO := Lib.hid (World.ownsRow_nil w w.heap.size 28 3)
  clear h
  go_enter Tryz.func56, Tryz.ntmps56
  go_wp2_with (at_builtin; refine wpList_append_own_at _ rfl (.tmp 23) (.tmp 24) 24 rfl w.heap.size 28 i0 _ 3 24 Tryz.underlying24 ii iz0 iz1 iz2 rfl (by decide) _ 0 _ rfl HO.out ⟨g, 0, none⟩ 1 c (OwnS.flat [(x, y, z)]) rfl rfl HSRC.out (OwnS.flat_one _) (by unfold maxLen; omega) (by omega) (Nat.le_refl _) ?_)
  intro v w1 ho hg _ _
  have hv : ∃ g' c', v = .slice (some ⟨g', 0, none⟩) 1 c' ∧ w.heap.size ≤ g' := by
    rcases ho.2 with ⟨_, h0⟩ | ⟨g', cap, cur, rfl, hb, _⟩
    · simp at h0
    · exact ⟨g', cap, rfl, hb⟩
  obtain ⟨g', c', rfl, hge⟩ := hv
  have HV := Lib.hid (show VecAt OwnS w1 (some ⟨g', 0, none⟩) 1 c' [(x, y, z)] from VecAt.ofOwn (S := OwnS) ho rfl (fun _ _ => trivial))
  have HB := Lib.hid (below_own (Below.refl _ _) HO.out hg (Nat.le_refl _) (Nat.le_refl _))
  have HG := Lib.hid hge
  clear ho hg hge
  go_wp2_with fail
  go_ret
  exact ⟨g', c', rfl, HG.out, HV.out, HB.out⟩
set_option maxRecDepth 100000 in
set_option maxHeartbeats 1000000 in
theorem put_nilO (x y z : Int) (f : Value) (w : World) : Calls Tryz.prog 29 #[.slice none 0 0, .agg #[.int .i64 x, .int .i64 y, .int .i64 z], f] w fun e w' => ∃ g c, e = .returned (.slice (some ⟨g, 0, none⟩) 1 c) ∧ w.heap.size ≤ g ∧ VecAt OwnS w' (some ⟨g, 0, none⟩) 1 c [(x, y, z)] ∧ Below w.heap.size w w' := by
  obtain ⟨wa, hwa⟩ : ∃ wa, wa = w.alloc (.cells #[.int .i64 x, .int .i64 y, .int .i64 z] 28) := ⟨_, rfl⟩
  have ba : Below w.heap.size w wa := by rw [hwa]; exact (Below.refl _ _).alloc (Nat.le_refl _) _
  have ga : wa.heap[w.heap.size]? = some (.cells #[.int .i64 x, .int .i64 y, .int .i64 z] 28 (0, 0)) := by rw [hwa]; exact heap_alloc_new _ _
  have HBA := Lib.hid ba
  have HGA := Lib.hid ga
  have HWA := Lib.hid hwa
  have HBS := Lib.hid (bsf_nilO x y z f wa)
  clear hwa ba ga
  go_enter Tryz.func29, Tryz.ntmps29
  go_wp2_with fail
  rw [← HWA.out]
  refine HBS.out.mono ?_
  rintro e w1 ⟨rfl, hb1⟩
  have HB1 := Lib.hid (HBA.out.trans (hb1.mono HBA.out.size))
  have hg1 := (hb1.block w.heap.size (Array.getElem?_eq_some_iff.1 HGA.out).1).trans HGA.out
  have c0 : w1.cell? ⟨w.heap.size, 0, none⟩ = some (.int .i64 x) := cell_blk hg1 rfl
  have c1 : w1.cell? ⟨w.heap.size, 1, none⟩ = some (.int .i64 y) := cell_blk hg1 rfl
  have c2 : w1.cell? ⟨w.heap.size, 2, none⟩ = some (.int .i64 z) := cell_blk hg1 rfl
  obtain ⟨w2, hw2⟩ : ∃ w2, w2 = w1.alloc (.cells #[.int .i64 x, .int .i64 y, .int .i64 z] 28) := ⟨_, rfl⟩
  have HB2 := Lib.hid (show Below w.heap.size w w2 from by rw [hw2]; exact HB1.out.alloc HB1.out.size _)
  have HV2 := Lib.hid (show VecAt OwnS w2 (some ⟨w1.heap.size, 0, none⟩) 1 1 [(x, y, z)] from by
    rw [hw2]
    exact VecAt.ofOwn (S := OwnS) (World.ownsRow_lit (base := w1.heap.size) (e := 28) (size := 3) w1 #[.int .i64 x, .int .i64 y, .int .i64 z] 1 (Nat.le_refl _) (by unfold maxLen; omega) rfl) rfl (fun _ _ => trivial))
  have HW2 := Lib.hid hw2
  have HIN := Lib.hid (insert_nilO HV2.out)
  clear hb1 hg1 hw2
  go_wp2_with fail
  rw [← HW2.out]
  refine HIN.out.mono ?_
  rintro e w3 ⟨g, c, rfl, hge, hv, hb⟩
  have HB3 := Lib.hid (HB2.out.trans (hb.mono HB2.out.size))
  have HV := Lib.hid hv
  have HG := Lib.hid (Nat.le_trans HB2.out.size hge)
  clear hge hv hb
  go_wp2_with fail
  go_ret
  exact ⟨g, c, rfl, HG.out, HV.out, HB3.out⟩

end Go.Proofs.YtmgimmbihcbkbaaGreat
