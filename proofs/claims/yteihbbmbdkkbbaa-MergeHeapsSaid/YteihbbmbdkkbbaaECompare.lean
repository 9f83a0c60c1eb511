/- The comparison of entries, walked. Written by genecompare.py. -/
import Derived.Test.YteihbbmbdkkbbaaEEntAt
import Derived.Test.YteihbbmbdkkbbaaEAnyOrd
namespace Go.Proofs.Yteihbbmbdkkbbaa
open Go.ChangeShapes Go.WideShapes Go.Deep Go.RowKit LabPlain
set_option linter.unusedVariables false

theorem nan_any (x : Int) (w : World) : Calls Try.prog 52 #[.int .i64 x] w fun e w' => e = .returned (.bool false) ∧ Below w.heap.size w w' := by
  have z : (x != x) = false := by simp
  go_enter Try.func52, Try.ntmps52
  go_wp2_with fail
  go_ret
  exact ⟨rfl, Below.refl _ _⟩
theorem cmp_any (x y : Int) (w : World) : Calls Try.prog 41 #[.int .i64 x, .int .i64 y] w fun e w' => e = .returned (.int .i64 (cmp3 x y)) ∧ Below w.heap.size w w' := by
  by_cases h : x < y
  · go_enter Try.func41, Try.ntmps41
    go_wp2_with fail
    refine (nan_any x w).mono ?_
    rintro e w2 ⟨rfl, hb2⟩
    go_wp2_with fail
    refine (nan_any y w2).mono ?_
    rintro e w3 ⟨rfl, hb3⟩
    have HB := Lib.hid (hb2.trans (hb3.mono hb2.size))
    clear hb2 hb3
    go_wp2_with fail
    go_ret
    exact ⟨by simp [cmp3, h], HB.out⟩
  · by_cases h2 : y < x
    · have H1 := Lib.hid h
      have H2 := Lib.hid h2
      go_enter Try.func41, Try.ntmps41
      go_wp2_with fail
      refine (nan_any x w).mono ?_
      rintro e w2 ⟨rfl, hb2⟩
      go_wp2_with fail
      refine (nan_any y w2).mono ?_
      rintro e w3 ⟨rfl, hb3⟩
      have HB := Lib.hid (hb2.trans (hb3.mono hb2.size))
      clear hb2 hb3
      go_wp2_with fail
      go_ret
      exact ⟨by simp [cmp3, h, h2], HB.out⟩
    · have H1 := Lib.hid h
      have H2 := Lib.hid h2
      go_enter Try.func41, Try.ntmps41
      go_wp2_with fail
      refine (nan_any x w).mono ?_
      rintro e w2 ⟨rfl, hb2⟩
      go_wp2_with fail
      refine (nan_any y w2).mono ?_
      rintro e w3 ⟨rfl, hb3⟩
      have HB := Lib.hid (hb2.trans (hb3.mono hb2.size))
      clear hb2 hb3
      go_wp2_with fail
      go_ret
      exact ⟨by unfold cmp3; rw [if_neg (by have := H1.out; omega), if_neg (by have := H2.out; omega)]; rfl, HB.out⟩
theorem nans_any (x : ByteArray) (w : World) : Calls Try.prog 53 #[.string x] w fun e w' => e = .returned (.bool false) ∧ Below w.heap.size w w' := by
  have z : (x.toList != x.toList) = false := by simp
  go_enter Try.func53, Try.ntmps53
  go_wp2_with fail
  go_ret
  exact ⟨rfl, Below.refl _ _⟩
theorem cmps_any (x y : ByteArray) (w : World) : Calls Try.prog 42 #[.string x, .string y] w fun e w' => e = .returned (.int .i64 (cmpS x y)) ∧ Below w.heap.size w w' := by
  by_cases h : ltB x y = true
  · have q1 : Op.bytesLess x.toList y.toList = true := h
    go_enter Try.func42, Try.ntmps42
    go_wp2_with fail
    refine (nans_any x w).mono ?_
    rintro e w2 ⟨rfl, hb2⟩
    go_wp2_with fail
    refine (nans_any y w2).mono ?_
    rintro e w3 ⟨rfl, hb3⟩
    have HB := Lib.hid (hb2.trans (hb3.mono hb2.size))
    clear hb2 hb3
    go_wp2_with fail
    go_ret
    exact ⟨by simp [cmpS, h], HB.out⟩
  · by_cases h2 : ltB y x = true
    · have q1 : Op.bytesLess x.toList y.toList = false := by cases hb : Op.bytesLess x.toList y.toList with | false => rfl | true => exact absurd hb h
      have q2 : (x.toList == y.toList) = false := by have h3 := leq_not x y; rw [q1, h2] at h3; simpa using h3
      have H1 := Lib.hid h
      have H2 := Lib.hid h2
      go_enter Try.func42, Try.ntmps42
      go_wp2_with fail
      refine (nans_any x w).mono ?_
      rintro e w2 ⟨rfl, hb2⟩
      go_wp2_with fail
      refine (nans_any y w2).mono ?_
      rintro e w3 ⟨rfl, hb3⟩
      have HB := Lib.hid (hb2.trans (hb3.mono hb2.size))
      clear hb2 hb3
      go_wp2_with fail
      go_ret
      exact ⟨by simp [cmpS, h, h2], HB.out⟩
    · have q1 : Op.bytesLess x.toList y.toList = false := by cases hb : Op.bytesLess x.toList y.toList with | false => rfl | true => exact absurd hb h
      have q2 : (x.toList == y.toList) = true := by have h3 := leq_not x y; rw [q1, show ltB y x = false by simpa using h2] at h3; simpa using h3
      have H1 := Lib.hid h
      have H2 := Lib.hid h2
      go_enter Try.func42, Try.ntmps42
      go_wp2_with fail
      refine (nans_any x w).mono ?_
      rintro e w2 ⟨rfl, hb2⟩
      go_wp2_with fail
      refine (nans_any y w2).mono ?_
      rintro e w3 ⟨rfl, hb3⟩
      have HB := Lib.hid (hb2.trans (hb3.mono hb2.size))
      clear hb2 hb3
      go_wp2_with fail
      go_ret
      exact ⟨by unfold cmpS; rw [if_neg H1.out, if_neg H2.out]; rfl, HB.out⟩
theorem or_any {w : World} {b : Nat} {v : Nat → Int} (h : ∀ k, k < 4 → w.cell? ⟨b, k, none⟩ = some (.int .i64 (v k))) :
    Calls Try.prog 40 #[.slice (some ⟨b, 0, none⟩) 4 4] w fun e w' => e = .returned (.int .i64 (or4 v)) ∧ Below w.heap.size w w' := by
  have HV := Lib.hid h
  clear h
  go_enter Try.func40, Try.ntmps40
  go_wp2_with fail
  go_loopw [2, 5, 8] (fun s2 s5 s8 wr => ∃ k : Nat, k ≤ 4 ∧ s2 = .int .i64 0 ∧ s8 = .int .i64 (k : Int) ∧ Hid (∀ i, i < k → v i = 0) ∧ Hid (Below w.heap.size w wr) ∧ Hid (∀ k, k < 4 → wr.cell? ⟨b, k, none⟩ = some (.int .i64 (v k)))) (fun _ _ s8 _ => 4 - (intOf s8).toNat)
  case atStart => exact ⟨0, by omega, rfl, rfl, Lib.hid (fun i h => by omega), Lib.hid (Below.refl _ _), HV⟩
  case round =>
    obtain ⟨k, hk, rfl, rfl, HZ, HB, HC⟩ := hrel
    rename World => wr
    by_cases hk4 : k < 4
    · have hk4i : (k : Int) < 4 := by omega
      have ck := HC.out k hk4
      obtain ⟨u, hu⟩ : ∃ u, u = v k := ⟨_, rfl⟩
      rw [← hu] at ck
      by_cases hz : u = 0
      · subst hz
        have HU := Lib.hid hu
        clear hu
        go_wp2_with fail
        go_roundw
        case rel => exact ⟨k + 1, by omega, rfl, by go_num, Lib.hid (fun i h => by
          by_cases e : i = k
          · rw [e]; exact HU.out.symm
          · exact HZ.out i (by omega)), HB, HC⟩
        case measure => simp [intOf]; omega
      · have hz2 : (u != 0) = true := by rw [bne_iff_ne]; exact hz
        have HU := Lib.hid hu
        have hz3 := Lib.hid hz
        clear hu hz
        go_wp2_with fail
        go_ret
        refine ⟨?_, HB.out⟩
        have h := HZ.out
        have hu := HU.out
        have hz := hz3.out
        have : or4 v = u := by
          unfold or4
          rcases (by omega : k = 0 ∨ k = 1 ∨ k = 2 ∨ k = 3) with rfl | rfl | rfl | rfl
          · rw [if_pos (by rw [← hu]; exact hz), hu]
          · rw [if_neg (by simp [h 0 (by omega)]), if_pos (by rw [← hu]; exact hz), hu]
          · rw [if_neg (by simp [h 0 (by omega)]), if_neg (by simp [h 1 (by omega)]), if_pos (by rw [← hu]; exact hz), hu]
          · rw [if_neg (by simp [h 0 (by omega)]), if_neg (by simp [h 1 (by omega)]), if_neg (by simp [h 2 (by omega)]), hu]
        rw [this]; rfl
    · obtain rfl : k = 4 := by omega
      go_wp2_with fail
      go_ret
      refine ⟨?_, HB.out⟩
      have h := HZ.out
      simp [or4, h 0 (by omega), h 1 (by omega), h 2 (by omega), h 3 (by omega)]
theorem cell_blk {w : World} {B : Nat} {cur : Array Value} {t : TypeId} (g : w.heap[B]? = some (.cells cur t (0, 0))) {i : Nat} {u : Value} (h : cur[i]? = some u) : w.cell? ⟨B, i, none⟩ = some u := by rw [cell_of_row w _ _ _ _ (0, 0) g]; exact h
def CmpF (x y : EntV) (b2 b3 : Nat) : Nat → Value → World → Prop
  | 0, v, _ => v = .pointer (some ⟨b2, 1, none⟩)
  | 1, v, _ => v = .int .i64 x.win
  | 2, v, _ => v = .pointer (some ⟨b3, 1, none⟩)
  | 3, v, _ => v = .int .i64 y.win
  | 4, v, _ => v = .int .i64 (cmp3 x.win y.win)
  | 5, v, _ => v = .pointer (some ⟨b2, 2, none⟩)
  | 6, v, _ => v = .string x.part
  | 7, v, _ => v = .pointer (some ⟨b3, 2, none⟩)
  | 8, v, _ => v = .string y.part
  | 9, v, _ => v = .int .i64 (cmpS x.part y.part)
  | 10, v, _ => v = .pointer (some ⟨b2, 8, none⟩)
  | 11, v, _ => v = .int .i64 x.born
  | 12, v, _ => v = .pointer (some ⟨b3, 8, none⟩)
  | 13, v, _ => v = .int .i64 y.born
  | 14, v, _ => v = .int .i64 (cmp3 x.born y.born)
  | 15, v, _ => v = .pointer (some ⟨b2, 0, none⟩)
  | 16, v, _ => v = .string x.key
  | 17, v, _ => v = .pointer (some ⟨b3, 0, none⟩)
  | 18, v, _ => v = .string y.key
  | 19, v, _ => v = .int .i64 (cmpS x.key y.key)
  | 20, v, w => ∃ b, v = .slice (some ⟨b, 0, none⟩) 4 4 ∧ b < w.heap.size ∧ ∀ k, k < 4 → w.cell? ⟨b, k, none⟩ = some (.int .i64 ((fun k => match k with | 0 => cmp3 x.win y.win | 1 => cmpS x.part y.part | 2 => cmp3 x.born y.born | _ => cmpS x.key y.key : Nat → Int) k))
  | 21, v, _ => v = .int .i64 (cmpEnt x y)
  | 22, v, _ => v = .int .i64 (cmpEnt x y)
  | _ + 23, _, _ => True
theorem CmpF.mono {x y : EntV} {b2 b3 : Nat} {w w' : World} (ht : Below w.heap.size w w') : ∀ j v, CmpF x y b2 b3 j v w → CmpF x y b2 b3 j v w' := fun j v h =>
  match j, h with
  | 0, h => h
  | 1, h => h
  | 2, h => h
  | 3, h => h
  | 4, h => h
  | 5, h => h
  | 6, h => h
  | 7, h => h
  | 8, h => h
  | 9, h => h
  | 10, h => h
  | 11, h => h
  | 12, h => h
  | 13, h => h
  | 14, h => h
  | 15, h => h
  | 16, h => h
  | 17, h => h
  | 18, h => h
  | 19, h => h
  | 20, h => by
    obtain ⟨b, h1, h2, h3⟩ := h
    exact ⟨b, h1, Nat.lt_of_lt_of_le h2 ht.size, fun k hk => (ht.cell (p := ⟨b, k, none⟩) h2).trans (h3 k hk)⟩
  | 21, h => h
  | 22, h => h
  | _ + 23, _ => trivial

set_option maxRecDepth 100000 in
set_option maxHeartbeats 8000000 in
theorem ecompare_any (x y : EntV) (w : World) : Calls Try.prog 39 #[.agg #[.string x.key, .int .i64 x.win, .string x.part, .int .i64 x.fst, .int .i64 x.lst, .int .i64 x.rows, .int .i64 x.size, .int .u32 x.sum, .int .i64 x.born], .agg #[.string y.key, .int .i64 y.win, .string y.part, .int .i64 y.fst, .int .i64 y.lst, .int .i64 y.rows, .int .i64 y.size, .int .u32 y.sum, .int .i64 y.born]] w fun e w' => e = .returned (.int .i64 (cmpEnt x y)) ∧ Below w.heap.size w w' := by
  obtain ⟨b2, hb2⟩ : ∃ b, b = w.heap.size := ⟨_, rfl⟩
  obtain ⟨b3, hb3⟩ : ∃ b, b = w.heap.size + 1 := ⟨_, rfl⟩
  obtain ⟨w2, hw2⟩ : ∃ w2, w2 = (w.alloc (.cells #[.string x.key, .int .i64 x.win, .string x.part, .int .i64 x.fst, .int .i64 x.lst, .int .i64 x.rows, .int .i64 x.size, .int .u32 x.sum, .int .i64 x.born] 57)).alloc (.cells #[.string y.key, .int .i64 y.win, .string y.part, .int .i64 y.fst, .int .i64 y.lst, .int .i64 y.rows, .int .i64 y.size, .int .u32 y.sum, .int .i64 y.born] 57) := ⟨_, rfl⟩
  have hs1 : (w.alloc (.cells #[.string x.key, .int .i64 x.win, .string x.part, .int .i64 x.fst, .int .i64 x.lst, .int .i64 x.rows, .int .i64 x.size, .int .u32 x.sum, .int .i64 x.born] 57)).heap.size = w.heap.size + 1 := by show (w.heap.push _).size = _; rw [Array.size_push]
  have hb : Below w.heap.size w w2 := by rw [hw2]; exact ((Below.refl _ _).alloc (Nat.le_refl _) _).alloc (by omega) _
  have g2 : w2.heap[b2]? = some (.cells #[.string x.key, .int .i64 x.win, .string x.part, .int .i64 x.fst, .int .i64 x.lst, .int .i64 x.rows, .int .i64 x.size, .int .u32 x.sum, .int .i64 x.born] 57 (0, 0)) := by
    rw [hw2, hb2]
    exact (((Below.refl (w.alloc (.cells #[.string x.key, .int .i64 x.win, .string x.part, .int .i64 x.fst, .int .i64 x.lst, .int .i64 x.rows, .int .i64 x.size, .int .u32 x.sum, .int .i64 x.born] 57)).heap.size _).alloc (Nat.le_refl _) _).block w.heap.size (by omega)).trans (heap_alloc_new w _)
  have g3 : w2.heap[b3]? = some (.cells #[.string y.key, .int .i64 y.win, .string y.part, .int .i64 y.fst, .int .i64 y.lst, .int .i64 y.rows, .int .i64 y.size, .int .u32 y.sum, .int .i64 y.born] 57 (0, 0)) := by rw [hw2, hb3, ← hs1]; exact heap_alloc_new _ _
  have hl2 : b2 < w2.heap.size := (Array.getElem?_eq_some_iff.1 g2).1
  have hl3 : b3 < w2.heap.size := (Array.getElem?_eq_some_iff.1 g3).1
  have cx1 := Lib.hid (cell_blk g2 (i := 1) (u := .int .i64 x.win) rfl)
  have cx2 := Lib.hid (cell_blk g2 (i := 2) (u := .string x.part) rfl)
  have cx8 := Lib.hid (cell_blk g2 (i := 8) (u := .int .i64 x.born) rfl)
  have cx0 := Lib.hid (cell_blk g2 (i := 0) (u := .string x.key) rfl)
  have cy1 := Lib.hid (cell_blk g3 (i := 1) (u := .int .i64 y.win) rfl)
  have cy2 := Lib.hid (cell_blk g3 (i := 2) (u := .string y.part) rfl)
  have cy8 := Lib.hid (cell_blk g3 (i := 8) (u := .int .i64 y.born) rfl)
  have cy0 := Lib.hid (cell_blk g3 (i := 0) (u := .string y.key) rfl)
  have HB := Lib.hid hb
  have HB2 := Lib.hid hb2
  have HB3 := Lib.hid hb3
  have HW2 := Lib.hid hw2
  have HL2 := Lib.hid hl2
  have HL3 := Lib.hid hl3
  have HJ0 := Lib.hid (Below.refl w2.heap.size w2).drew
  clear hb hb2 hb3 hw2 hl2 hl3 hs1 g2 g3
  go_enter Try.func39, Try.ntmps39
  go_wp2_with fail
  rw [← HW2.out, ← HB3.out, ← HB2.out]
  refine wp_region_fill (by kernel_rfl) (by kernel_rfl) (by kernel_rfl) (Below w2.heap.size w2) (CmpF x y b2 b3) HJ0.out ?_ ?_
  · intro i o ho V w5 K hJ hdep hK
    have HJ := Lib.hid hJ
    have hi25 : i < 23 := (Array.getElem?_eq_some_iff.1 ho).1
    have hcs : i = 0 ∨ i = 1 ∨ i = 2 ∨ i = 3 ∨ i = 4 ∨ i = 5 ∨ i = 6 ∨ i = 7 ∨ i = 8 ∨ i = 9 ∨ i = 10 ∨ i = 11 ∨ i = 12 ∨ i = 13 ∨ i = 14 ∨ i = 15 ∨ i = 16 ∨ i = 17 ∨ i = 18 ∨ i = 19 ∨ i = 20 ∨ i = 21 ∨ i = 22 := by omega
    rcases hcs with rfl | rfl | rfl | rfl | rfl | rfl | rfl | rfl | rfl | rfl | rfl | rfl | rfl | rfl | rfl | rfl | rfl | rfl | rfl | rfl | rfl | rfl | rfl
    · obtain rfl := Option.some.inj ho.symm
      clear hdep ho hJ
      simp only [fill, slotOf, List.size_toArray, List.length_cons, List.length_nil, Nat.reduceAdd, List.getElem?_toArray, List.getElem?_cons_zero, List.getElem?_cons_succ, Option.bind_some, Act.put, List.setIfInBounds_toArray, List.set_cons_zero, List.set_cons_succ] at hK ⊢
      go_simp
      exact hK _ _ HJ.out rfl (fun j y h => h) _ rfl
    · obtain rfl := Option.some.inj ho.symm
      have h1 : V 0 = .pointer (some ⟨b2, 1, none⟩) := hdep ⟨0, .data⟩ (by simp) rfl
      have cc : w5.cell? ⟨b2, 1, none⟩ = some (.int .i64 x.win) := (hJ.cell (p := ⟨b2, 1, none⟩) HL2.out).trans cx1.out
      clear hdep ho hJ
      simp only [fill, slotOf, List.size_toArray, List.length_cons, List.length_nil, Nat.reduceAdd, List.getElem?_toArray, List.getElem?_cons_zero, List.getElem?_cons_succ, Option.bind_some, Act.put, List.setIfInBounds_toArray, List.set_cons_zero, List.set_cons_succ] at hK ⊢
      rw [h1]
      go_simp
      exact hK _ _ HJ.out rfl (fun j y h => h) _ (by rw [h1]; rfl)
    · obtain rfl := Option.some.inj ho.symm
      clear hdep ho hJ
      simp only [fill, slotOf, List.size_toArray, List.length_cons, List.length_nil, Nat.reduceAdd, List.getElem?_toArray, List.getElem?_cons_zero, List.getElem?_cons_succ, Option.bind_some, Act.put, List.setIfInBounds_toArray, List.set_cons_zero, List.set_cons_succ] at hK ⊢
      go_simp
      exact hK _ _ HJ.out rfl (fun j y h => h) _ rfl
    · obtain rfl := Option.some.inj ho.symm
      have h1 : V 2 = .pointer (some ⟨b3, 1, none⟩) := hdep ⟨2, .data⟩ (by simp) rfl
      have cc : w5.cell? ⟨b3, 1, none⟩ = some (.int .i64 y.win) := (hJ.cell (p := ⟨b3, 1, none⟩) HL3.out).trans cy1.out
      clear hdep ho hJ
      simp only [fill, slotOf, List.size_toArray, List.length_cons, List.length_nil, Nat.reduceAdd, List.getElem?_toArray, List.getElem?_cons_zero, List.getElem?_cons_succ, Option.bind_some, Act.put, List.setIfInBounds_toArray, List.set_cons_zero, List.set_cons_succ] at hK ⊢
      rw [h1]
      go_simp
      exact hK _ _ HJ.out rfl (fun j y h => h) _ (by rw [h1]; rfl)
    · obtain rfl := Option.some.inj ho.symm
      have h1 : V 1 = .int .i64 x.win := hdep ⟨1, .data⟩ (by simp) rfl
      have h2 : V 3 = .int .i64 y.win := hdep ⟨3, .data⟩ (by simp) rfl
      clear hdep ho hJ
      simp only [fill, slotOf, List.size_toArray, List.length_cons, List.length_nil, Nat.reduceAdd, List.getElem?_toArray, List.getElem?_cons_zero, List.getElem?_cons_succ, Option.bind_some, Act.put, List.setIfInBounds_toArray, List.set_cons_zero, List.set_cons_succ] at hK ⊢
      rw [h1, h2]
      go_simp
      refine (cmp_any x.win y.win _).mono ?_
      rintro e w6 ⟨rfl, hb6⟩
      exact hK _ _ (HJ.out.trans (hb6.mono HJ.out.size)) rfl (CmpF.mono hb6) _ (by rw [h1, h2]; rfl)
    · obtain rfl := Option.some.inj ho.symm
      clear hdep ho hJ
      simp only [fill, slotOf, List.size_toArray, List.length_cons, List.length_nil, Nat.reduceAdd, List.getElem?_toArray, List.getElem?_cons_zero, List.getElem?_cons_succ, Option.bind_some, Act.put, List.setIfInBounds_toArray, List.set_cons_zero, List.set_cons_succ] at hK ⊢
      go_simp
      exact hK _ _ HJ.out rfl (fun j y h => h) _ rfl
    · obtain rfl := Option.some.inj ho.symm
      have h1 : V 5 = .pointer (some ⟨b2, 2, none⟩) := hdep ⟨5, .data⟩ (by simp) rfl
      have cc : w5.cell? ⟨b2, 2, none⟩ = some (.string x.part) := (hJ.cell (p := ⟨b2, 2, none⟩) HL2.out).trans cx2.out
      clear hdep ho hJ
      simp only [fill, slotOf, List.size_toArray, List.length_cons, List.length_nil, Nat.reduceAdd, List.getElem?_toArray, List.getElem?_cons_zero, List.getElem?_cons_succ, Option.bind_some, Act.put, List.setIfInBounds_toArray, List.set_cons_zero, List.set_cons_succ] at hK ⊢
      rw [h1]
      go_simp
      exact hK _ _ HJ.out rfl (fun j y h => h) _ (by rw [h1]; rfl)
    · obtain rfl := Option.some.inj ho.symm
      clear hdep ho hJ
      simp only [fill, slotOf, List.size_toArray, List.length_cons, List.length_nil, Nat.reduceAdd, List.getElem?_toArray, List.getElem?_cons_zero, List.getElem?_cons_succ, Option.bind_some, Act.put, List.setIfInBounds_toArray, List.set_cons_zero, List.set_cons_succ] at hK ⊢
      go_simp
      exact hK _ _ HJ.out rfl (fun j y h => h) _ rfl
    · obtain rfl := Option.some.inj ho.symm
      have h1 : V 7 = .pointer (some ⟨b3, 2, none⟩) := hdep ⟨7, .data⟩ (by simp) rfl
      have cc : w5.cell? ⟨b3, 2, none⟩ = some (.string y.part) := (hJ.cell (p := ⟨b3, 2, none⟩) HL3.out).trans cy2.out
      clear hdep ho hJ
      simp only [fill, slotOf, List.size_toArray, List.length_cons, List.length_nil, Nat.reduceAdd, List.getElem?_toArray, List.getElem?_cons_zero, List.getElem?_cons_succ, Option.bind_some, Act.put, List.setIfInBounds_toArray, List.set_cons_zero, List.set_cons_succ] at hK ⊢
      rw [h1]
      go_simp
      exact hK _ _ HJ.out rfl (fun j y h => h) _ (by rw [h1]; rfl)
    · obtain rfl := Option.some.inj ho.symm
      have h1 : V 6 = .string x.part := hdep ⟨6, .data⟩ (by simp) rfl
      have h2 : V 8 = .string y.part := hdep ⟨8, .data⟩ (by simp) rfl
      clear hdep ho hJ
      simp only [fill, slotOf, List.size_toArray, List.length_cons, List.length_nil, Nat.reduceAdd, List.getElem?_toArray, List.getElem?_cons_zero, List.getElem?_cons_succ, Option.bind_some, Act.put, List.setIfInBounds_toArray, List.set_cons_zero, List.set_cons_succ] at hK ⊢
      rw [h1, h2]
      go_simp
      refine (cmps_any x.part y.part _).mono ?_
      rintro e w6 ⟨rfl, hb6⟩
      exact hK _ _ (HJ.out.trans (hb6.mono HJ.out.size)) rfl (CmpF.mono hb6) _ (by rw [h1, h2]; rfl)
    · obtain rfl := Option.some.inj ho.symm
      clear hdep ho hJ
      simp only [fill, slotOf, List.size_toArray, List.length_cons, List.length_nil, Nat.reduceAdd, List.getElem?_toArray, List.getElem?_cons_zero, List.getElem?_cons_succ, Option.bind_some, Act.put, List.setIfInBounds_toArray, List.set_cons_zero, List.set_cons_succ] at hK ⊢
      go_simp
      exact hK _ _ HJ.out rfl (fun j y h => h) _ rfl
    · obtain rfl := Option.some.inj ho.symm
      have h1 : V 10 = .pointer (some ⟨b2, 8, none⟩) := hdep ⟨10, .data⟩ (by simp) rfl
      have cc : w5.cell? ⟨b2, 8, none⟩ = some (.int .i64 x.born) := (hJ.cell (p := ⟨b2, 8, none⟩) HL2.out).trans cx8.out
      clear hdep ho hJ
      simp only [fill, slotOf, List.size_toArray, List.length_cons, List.length_nil, Nat.reduceAdd, List.getElem?_toArray, List.getElem?_cons_zero, List.getElem?_cons_succ, Option.bind_some, Act.put, List.setIfInBounds_toArray, List.set_cons_zero, List.set_cons_succ] at hK ⊢
      rw [h1]
      go_simp
      exact hK _ _ HJ.out rfl (fun j y h => h) _ (by rw [h1]; rfl)
    · obtain rfl := Option.some.inj ho.symm
      clear hdep ho hJ
      simp only [fill, slotOf, List.size_toArray, List.length_cons, List.length_nil, Nat.reduceAdd, List.getElem?_toArray, List.getElem?_cons_zero, List.getElem?_cons_succ, Option.bind_some, Act.put, List.setIfInBounds_toArray, List.set_cons_zero, List.set_cons_succ] at hK ⊢
      go_simp
      exact hK _ _ HJ.out rfl (fun j y h => h) _ rfl
    · obtain rfl := Option.some.inj ho.symm
      have h1 : V 12 = .pointer (some ⟨b3, 8, none⟩) := hdep ⟨12, .data⟩ (by simp) rfl
      have cc : w5.cell? ⟨b3, 8, none⟩ = some (.int .i64 y.born) := (hJ.cell (p := ⟨b3, 8, none⟩) HL3.out).trans cy8.out
      clear hdep ho hJ
      simp only [fill, slotOf, List.size_toArray, List.length_cons, List.length_nil, Nat.reduceAdd, List.getElem?_toArray, List.getElem?_cons_zero, List.getElem?_cons_succ, Option.bind_some, Act.put, List.setIfInBounds_toArray, List.set_cons_zero, List.set_cons_succ] at hK ⊢
      rw [h1]
      go_simp
      exact hK _ _ HJ.out rfl (fun j y h => h) _ (by rw [h1]; rfl)
    · obtain rfl := Option.some.inj ho.symm
      have h1 : V 11 = .int .i64 x.born := hdep ⟨11, .data⟩ (by simp) rfl
      have h2 : V 13 = .int .i64 y.born := hdep ⟨13, .data⟩ (by simp) rfl
      clear hdep ho hJ
      simp only [fill, slotOf, List.size_toArray, List.length_cons, List.length_nil, Nat.reduceAdd, List.getElem?_toArray, List.getElem?_cons_zero, List.getElem?_cons_succ, Option.bind_some, Act.put, List.setIfInBounds_toArray, List.set_cons_zero, List.set_cons_succ] at hK ⊢
      rw [h1, h2]
      go_simp
      refine (cmp_any x.born y.born _).mono ?_
      rintro e w6 ⟨rfl, hb6⟩
      exact hK _ _ (HJ.out.trans (hb6.mono HJ.out.size)) rfl (CmpF.mono hb6) _ (by rw [h1, h2]; rfl)
    · obtain rfl := Option.some.inj ho.symm
      clear hdep ho hJ
      simp only [fill, slotOf, List.size_toArray, List.length_cons, List.length_nil, Nat.reduceAdd, List.getElem?_toArray, List.getElem?_cons_zero, List.getElem?_cons_succ, Option.bind_some, Act.put, List.setIfInBounds_toArray, List.set_cons_zero, List.set_cons_succ] at hK ⊢
      go_simp
      exact hK _ _ HJ.out rfl (fun j y h => h) _ rfl
    · obtain rfl := Option.some.inj ho.symm
      have h1 : V 15 = .pointer (some ⟨b2, 0, none⟩) := hdep ⟨15, .data⟩ (by simp) rfl
      have cc : w5.cell? ⟨b2, 0, none⟩ = some (.string x.key) := (hJ.cell (p := ⟨b2, 0, none⟩) HL2.out).trans cx0.out
      clear hdep ho hJ
      simp only [fill, slotOf, List.size_toArray, List.length_cons, List.length_nil, Nat.reduceAdd, List.getElem?_toArray, List.getElem?_cons_zero, List.getElem?_cons_succ, Option.bind_some, Act.put, List.setIfInBounds_toArray, List.set_cons_zero, List.set_cons_succ] at hK ⊢
      rw [h1]
      go_simp
      exact hK _ _ HJ.out rfl (fun j y h => h) _ (by rw [h1]; rfl)
    · obtain rfl := Option.some.inj ho.symm
      clear hdep ho hJ
      simp only [fill, slotOf, List.size_toArray, List.length_cons, List.length_nil, Nat.reduceAdd, List.getElem?_toArray, List.getElem?_cons_zero, List.getElem?_cons_succ, Option.bind_some, Act.put, List.setIfInBounds_toArray, List.set_cons_zero, List.set_cons_succ] at hK ⊢
      go_simp
      exact hK _ _ HJ.out rfl (fun j y h => h) _ rfl
    · obtain rfl := Option.some.inj ho.symm
      have h1 : V 17 = .pointer (some ⟨b3, 0, none⟩) := hdep ⟨17, .data⟩ (by simp) rfl
      have cc : w5.cell? ⟨b3, 0, none⟩ = some (.string y.key) := (hJ.cell (p := ⟨b3, 0, none⟩) HL3.out).trans cy0.out
      clear hdep ho hJ
      simp only [fill, slotOf, List.size_toArray, List.length_cons, List.length_nil, Nat.reduceAdd, List.getElem?_toArray, List.getElem?_cons_zero, List.getElem?_cons_succ, Option.bind_some, Act.put, List.setIfInBounds_toArray, List.set_cons_zero, List.set_cons_succ] at hK ⊢
      rw [h1]
      go_simp
      exact hK _ _ HJ.out rfl (fun j y h => h) _ (by rw [h1]; rfl)
    · obtain rfl := Option.some.inj ho.symm
      have h1 : V 16 = .string x.key := hdep ⟨16, .data⟩ (by simp) rfl
      have h2 : V 18 = .string y.key := hdep ⟨18, .data⟩ (by simp) rfl
      clear hdep ho hJ
      simp only [fill, slotOf, List.size_toArray, List.length_cons, List.length_nil, Nat.reduceAdd, List.getElem?_toArray, List.getElem?_cons_zero, List.getElem?_cons_succ, Option.bind_some, Act.put, List.setIfInBounds_toArray, List.set_cons_zero, List.set_cons_succ] at hK ⊢
      rw [h1, h2]
      go_simp
      refine (cmps_any x.key y.key _).mono ?_
      rintro e w6 ⟨rfl, hb6⟩
      exact hK _ _ (HJ.out.trans (hb6.mono HJ.out.size)) rfl (CmpF.mono hb6) _ (by rw [h1, h2]; rfl)
    · obtain rfl := Option.some.inj ho.symm
      have h0 : V 4 = .int .i64 (cmp3 x.win y.win) := hdep ⟨4, .data⟩ (by simp) rfl
      have h1 : V 9 = .int .i64 (cmpS x.part y.part) := hdep ⟨9, .data⟩ (by simp) rfl
      have h2 : V 14 = .int .i64 (cmp3 x.born y.born) := hdep ⟨14, .data⟩ (by simp) rfl
      have h3 : V 19 = .int .i64 (cmpS x.key y.key) := hdep ⟨19, .data⟩ (by simp) rfl
      clear hdep ho hJ
      simp only [fill, slotOf, List.size_toArray, List.length_cons, List.length_nil, Nat.reduceAdd, List.getElem?_toArray, List.getElem?_cons_zero, List.getElem?_cons_succ, Option.bind_some, Act.put, List.setIfInBounds_toArray, List.set_cons_zero, List.set_cons_succ] at hK ⊢
      rw [h0, h1, h2, h3]
      go_simp
      have HA := Lib.hid ((Below.refl w5.heap.size w5).alloc (Nat.le_refl _) (.cells #[.int .i64 (cmp3 x.win y.win), .int .i64 (cmpS x.part y.part), .int .i64 (cmp3 x.born y.born), .int .i64 (cmpS x.key y.key)] 3))
      have HG := Lib.hid (heap_alloc_new w5 (.cells #[.int .i64 (cmp3 x.win y.win), .int .i64 (cmpS x.part y.part), .int .i64 (cmp3 x.born y.born), .int .i64 (cmpS x.key y.key)] 3))
      refine hK _ _ (HJ.out.trans (HA.out.mono HJ.out.size)) ⟨w5.heap.size, rfl, (Array.getElem?_eq_some_iff.1 HG.out).1, fun k hk => ?_⟩ (CmpF.mono HA.out) _ (by rw [h0, h1, h2, h3]; rfl)
      rcases (by omega : k = 0 ∨ k = 1 ∨ k = 2 ∨ k = 3) with rfl | rfl | rfl | rfl
      all_goals exact cell_blk HG.out rfl
    · obtain rfl := Option.some.inj ho.symm
      obtain ⟨b, h1, h2, h3⟩ : CmpF x y b2 b3 20 (V 20) w5 := hdep ⟨20, .data⟩ (by simp) rfl
      have HO := Lib.hid (or_any (v := fun k => match k with | 0 => cmp3 x.win y.win | 1 => cmpS x.part y.part | 2 => cmp3 x.born y.born | _ => cmpS x.key y.key) h3)
      clear hdep ho hJ h2 h3
      simp only [fill, slotOf, List.size_toArray, List.length_cons, List.length_nil, Nat.reduceAdd, List.getElem?_toArray, List.getElem?_cons_zero, List.getElem?_cons_succ, Option.bind_some, Act.put, List.setIfInBounds_toArray, List.set_cons_zero, List.set_cons_succ] at hK ⊢
      rw [h1]
      go_simp
      refine HO.out.mono ?_
      rintro e w6 ⟨rfl, hb6⟩
      exact hK _ _ (HJ.out.trans (hb6.mono HJ.out.size)) rfl (CmpF.mono hb6) _ (by rw [h1]; rfl)
    · obtain rfl := Option.some.inj ho.symm
      have h1 : V 21 = .int .i64 (cmpEnt x y) := hdep ⟨21, .data⟩ (by simp) rfl
      clear hdep ho hJ
      simp only [fill, slotOf, List.size_toArray, List.length_cons, List.length_nil, Nat.reduceAdd, List.getElem?_toArray, List.getElem?_cons_zero, List.getElem?_cons_succ, Option.bind_some, Act.put, List.setIfInBounds_toArray, List.set_cons_zero, List.set_cons_succ] at hK ⊢
      rw [h1]
      go_simp
      exact hK _ _ HJ.out rfl (fun j y h => h) _ (by rw [h1]; rfl)
  · intro V w5 hJ hall
    have h24 : V 22 = .int .i64 (cmpEnt x y) := hall 22 (by decide)
    have HB5 := Lib.hid (HB.out.trans (hJ.mono HB.out.size))
    clear hall hJ
    simp only [fill, slotOf, List.size_toArray, List.length_cons, List.length_nil, Nat.reduceAdd, List.getElem?_toArray, List.getElem?_cons_zero, List.getElem?_cons_succ, Option.bind_some, Act.put, List.setIfInBounds_toArray, List.set_cons_zero, List.set_cons_succ]
    rw [h24]
    go_wp2_with fail
    go_ret
    exact ⟨rfl, HB5.out⟩
end Go.Proofs.Yteihbbmbdkkbbaa
