/- record.Compare, walked. Written by gencompare.py. -/
import Derived.Test.YtjbljplgkbnpmaaCmpInt
import Derived.Test.YtjbljplgkbnpmaaAnyOrd
namespace Go.Proofs.Ytjbljplgkbnpmaa
open Go.ChangeShapes Go.WideShapes Go.Deep Go.RowKit
set_option linter.unusedVariables false

theorem cell_blk {w : World} {B : Nat} {cur : Array Value} {t : TypeId} (g : w.heap[B]? = some (.cells cur t (0, 0))) {i : Nat} {u : Value} (h : cur[i]? = some u) : w.cell? ⟨B, i, none⟩ = some u := by rw [cell_of_row w _ _ _ _ (0, 0) g]; exact h
def CmpF (x y : RowV) (b2 b3 : Nat) : Nat → Value → World → Prop
  | 0, v, _ => v = .pointer (some ⟨b2, 0, none⟩)
  | 1, v, _ => v = .pointer (some ⟨b2, 1, none⟩)
  | 2, v, _ => v = .int .i64 x.r.time
  | 3, v, _ => v = .pointer (some ⟨b3, 0, none⟩)
  | 4, v, _ => v = .pointer (some ⟨b3, 1, none⟩)
  | 5, v, _ => v = .int .i64 y.r.time
  | 6, v, _ => v = .int .i64 (cmp3 x.r.time y.r.time)
  | 7, v, _ => v = .pointer (some ⟨b2, 6, none⟩)
  | 8, v, _ => v = .int .i64 x.who
  | 9, v, _ => v = .pointer (some ⟨b3, 6, none⟩)
  | 10, v, _ => v = .int .i64 y.who
  | 11, v, _ => v = .int .i64 (cmp3 x.who y.who)
  | 12, v, _ => v = .pointer (some ⟨b2, 7, none⟩)
  | 13, v, _ => v = .int .i64 x.sq
  | 14, v, _ => v = .pointer (some ⟨b3, 7, none⟩)
  | 15, v, _ => v = .int .i64 y.sq
  | 16, v, _ => v = .int .i64 (cmp3 x.sq y.sq)
  | 17, v, _ => v = .pointer (some ⟨b2, 8, none⟩)
  | 18, v, _ => v = .int .i64 x.pl
  | 19, v, _ => v = .pointer (some ⟨b3, 8, none⟩)
  | 20, v, _ => v = .int .i64 y.pl
  | 21, v, _ => v = .int .i64 (cmp3 x.pl y.pl)
  | 22, v, w => ∃ b, v = .slice (some ⟨b, 0, none⟩) 4 4 ∧ b < w.heap.size ∧ ∀ k, k < 4 → w.cell? ⟨b, k, none⟩ = some (.int .i64 (cmp3 (x.key.getD k 0) (y.key.getD k 0)))
  | 23, v, _ => v = .int .i64 (cmpRow x y)
  | 24, v, _ => v = .int .i64 (cmpRow x y)
  | _ + 25, _, _ => True
theorem CmpF.mono {x y : RowV} {b2 b3 : Nat} {w w' : World} (ht : Below w.heap.size w w') : ∀ j v, CmpF x y b2 b3 j v w → CmpF x y b2 b3 j v w' := fun j v h =>
  match j, h with
  | 0, h => h
  | 1, h => h
  | 2, h => h
  | 3, h => h
  | 4, h => h
  | 5, h => h
  | 6, h => h
  | 7, h => h
  | 8, h => h
  | 9, h => h
  | 10, h => h
  | 11, h => h
  | 12, h => h
  | 13, h => h
  | 14, h => h
  | 15, h => h
  | 16, h => h
  | 17, h => h
  | 18, h => h
  | 19, h => h
  | 20, h => h
  | 21, h => h
  | 22, h => by
    obtain ⟨b, h1, h2, h3⟩ := h
    exact ⟨b, h1, Nat.lt_of_lt_of_le h2 ht.size, fun k hk => (ht.cell (p := ⟨b, k, none⟩) h2).trans (h3 k hk)⟩
  | 23, h => h
  | 24, h => h
  | _ + 25, _ => trivial

set_option maxRecDepth 100000 in
set_option maxHeartbeats 8000000 in
theorem compare_any (x y : RowV) (w : World) : Calls Try.prog 43 #[.agg #[.int .i64 x.r.kind, .int .i64 x.r.time, .slice x.r.la x.r.ln x.r.lc, .string x.r.text, .int .i64 x.r.value, .bool x.r.null, .int .i64 x.who, .int .i64 x.sq, .int .i64 x.pl], .agg #[.int .i64 y.r.kind, .int .i64 y.r.time, .slice y.r.la y.r.ln y.r.lc, .string y.r.text, .int .i64 y.r.value, .bool y.r.null, .int .i64 y.who, .int .i64 y.sq, .int .i64 y.pl]] w fun e w' => e = .returned (.int .i64 (cmpRow x y)) ∧ Below w.heap.size w w' := by
  obtain ⟨b2, hb2⟩ : ∃ b, b = w.heap.size := ⟨_, rfl⟩
  obtain ⟨b3, hb3⟩ : ∃ b, b = w.heap.size + 1 := ⟨_, rfl⟩
  obtain ⟨w2, hw2⟩ : ∃ w2, w2 = (w.alloc (.cells #[.int .i64 x.r.kind, .int .i64 x.r.time, .slice x.r.la x.r.ln x.r.lc, .string x.r.text, .int .i64 x.r.value, .bool x.r.null, .int .i64 x.who, .int .i64 x.sq, .int .i64 x.pl] 62)).alloc (.cells #[.int .i64 y.r.kind, .int .i64 y.r.time, .slice y.r.la y.r.ln y.r.lc, .string y.r.text, .int .i64 y.r.value, .bool y.r.null, .int .i64 y.who, .int .i64 y.sq, .int .i64 y.pl] 62) := ⟨_, rfl⟩
  have hs1 : (w.alloc (.cells #[.int .i64 x.r.kind, .int .i64 x.r.time, .slice x.r.la x.r.ln x.r.lc, .string x.r.text, .int .i64 x.r.value, .bool x.r.null, .int .i64 x.who, .int .i64 x.sq, .int .i64 x.pl] 62)).heap.size = w.heap.size + 1 := by show (w.heap.push _).size = _; rw [Array.size_push]
  have hb : Below w.heap.size w w2 := by rw [hw2]; exact ((Below.refl _ _).alloc (Nat.le_refl _) _).alloc (by omega) _
  have g2 : w2.heap[b2]? = some (.cells #[.int .i64 x.r.kind, .int .i64 x.r.time, .slice x.r.la x.r.ln x.r.lc, .string x.r.text, .int .i64 x.r.value, .bool x.r.null, .int .i64 x.who, .int .i64 x.sq, .int .i64 x.pl] 62 (0, 0)) := by
    rw [hw2, hb2]
    exact (((Below.refl (w.alloc (.cells #[.int .i64 x.r.kind, .int .i64 x.r.time, .slice x.r.la x.r.ln x.r.lc, .string x.r.text, .int .i64 x.r.value, .bool x.r.null, .int .i64 x.who, .int .i64 x.sq, .int .i64 x.pl] 62)).heap.size _).alloc (Nat.le_refl _) _).block w.heap.size (by omega)).trans (heap_alloc_new w _)
  have g3 : w2.heap[b3]? = some (.cells #[.int .i64 y.r.kind, .int .i64 y.r.time, .slice y.r.la y.r.ln y.r.lc, .string y.r.text, .int .i64 y.r.value, .bool y.r.null, .int .i64 y.who, .int .i64 y.sq, .int .i64 y.pl] 62 (0, 0)) := by rw [hw2, hb3, ← hs1]; exact heap_alloc_new _ _
  have hl2 : b2 < w2.heap.size := (Array.getElem?_eq_some_iff.1 g2).1
  have hl3 : b3 < w2.heap.size := (Array.getElem?_eq_some_iff.1 g3).1
  have cx1 := Lib.hid (cell_blk g2 (i := 1) (u := .int .i64 x.r.time) rfl)
  have cx6 := Lib.hid (cell_blk g2 (i := 6) (u := .int .i64 x.who) rfl)
  have cx7 := Lib.hid (cell_blk g2 (i := 7) (u := .int .i64 x.sq) rfl)
  have cx8 := Lib.hid (cell_blk g2 (i := 8) (u := .int .i64 x.pl) rfl)
  have cy1 := Lib.hid (cell_blk g3 (i := 1) (u := .int .i64 y.r.time) rfl)
  have cy6 := Lib.hid (cell_blk g3 (i := 6) (u := .int .i64 y.who) rfl)
  have cy7 := Lib.hid (cell_blk g3 (i := 7) (u := .int .i64 y.sq) rfl)
  have cy8 := Lib.hid (cell_blk g3 (i := 8) (u := .int .i64 y.pl) rfl)
  have HB := Lib.hid hb
  have HB2 := Lib.hid hb2
  have HB3 := Lib.hid hb3
  have HW2 := Lib.hid hw2
  have HL2 := Lib.hid hl2
  have HL3 := Lib.hid hl3
  have HJ0 := Lib.hid (Below.refl w2.heap.size w2).drew
  clear hb hb2 hb3 hw2 hl2 hl3 hs1 g2 g3
  go_enter Try.func43, Try.ntmps43
  go_wp2_with fail
  rw [← HW2.out, ← HB3.out, ← HB2.out]
  refine wp_region_fill (by kernel_rfl) (by kernel_rfl) (by kernel_rfl) (Below w2.heap.size w2) (CmpF x y b2 b3) HJ0.out ?_ ?_
  · intro i o ho V w5 K hJ hdep hK
    have HJ := Lib.hid hJ
    have hi25 : i < 25 := (Array.getElem?_eq_some_iff.1 ho).1
    have hcs : i = 0 ∨ i = 1 ∨ i = 2 ∨ i = 3 ∨ i = 4 ∨ i = 5 ∨ i = 6 ∨ i = 7 ∨ i = 8 ∨ i = 9 ∨ i = 10 ∨ i = 11 ∨ i = 12 ∨ i = 13 ∨ i = 14 ∨ i = 15 ∨ i = 16 ∨ i = 17 ∨ i = 18 ∨ i = 19 ∨ i = 20 ∨ i = 21 ∨ i = 22 ∨ i = 23 ∨ i = 24 := by omega
    rcases hcs with rfl | rfl | rfl | rfl | rfl | rfl | rfl | rfl | rfl | rfl | rfl | rfl | rfl | rfl | rfl | rfl | rfl | rfl | rfl | rfl | rfl | rfl | rfl | rfl | rfl
    · obtain rfl := Option.some.inj ho.symm
      clear hdep ho hJ
      simp only [fill, slotOf, List.size_toArray, List.length_cons, List.length_nil, Nat.reduceAdd, List.getElem?_toArray, List.getElem?_cons_zero, List.getElem?_cons_succ, Option.bind_some, Act.put, List.setIfInBounds_toArray, List.set_cons_zero, List.set_cons_succ] at hK ⊢
      go_simp
      exact hK _ _ HJ.out rfl (fun j y h => h) _ rfl
    · obtain rfl := Option.some.inj ho.symm
      have h1 : V 0 = .pointer (some ⟨b2, 0, none⟩) := hdep ⟨0, .data⟩ (by simp) rfl
      clear hdep ho hJ
      simp only [fill, slotOf, List.size_toArray, List.length_cons, List.length_nil, Nat.reduceAdd, List.getElem?_toArray, List.getElem?_cons_zero, List.getElem?_cons_succ, Option.bind_some, Act.put, List.setIfInBounds_toArray, List.set_cons_zero, List.set_cons_succ] at hK ⊢
      rw [h1]
      go_simp
      exact hK _ _ HJ.out rfl (fun j y h => h) _ (by rw [h1]; rfl)
    · obtain rfl := Option.some.inj ho.symm
      have h1 : V 1 = .pointer (some ⟨b2, 1, none⟩) := hdep ⟨1, .data⟩ (by simp) rfl
      have cc : w5.cell? ⟨b2, 1, none⟩ = some (.int .i64 x.r.time) := (hJ.cell (p := ⟨b2, 1, none⟩) HL2.out).trans cx1.out
      clear hdep ho hJ
      simp only [fill, slotOf, List.size_toArray, List.length_cons, List.length_nil, Nat.reduceAdd, List.getElem?_toArray, List.getElem?_cons_zero, List.getElem?_cons_succ, Option.bind_some, Act.put, List.setIfInBounds_toArray, List.set_cons_zero, List.set_cons_succ] at hK ⊢
      rw [h1]
      go_simp
      exact hK _ _ HJ.out rfl (fun j y h => h) _ (by rw [h1]; rfl)
    · obtain rfl := Option.some.inj ho.symm
      clear hdep ho hJ
      simp only [fill, slotOf, List.size_toArray, List.length_cons, List.length_nil, Nat.reduceAdd, List.getElem?_toArray, List.getElem?_cons_zero, List.getElem?_cons_succ, Option.bind_some, Act.put, List.setIfInBounds_toArray, List.set_cons_zero, List.set_cons_succ] at hK ⊢
      go_simp
      exact hK _ _ HJ.out rfl (fun j y h => h) _ rfl
    · obtain rfl := Option.some.inj ho.symm
      have h1 : V 3 = .pointer (some ⟨b3, 0, none⟩) := hdep ⟨3, .data⟩ (by simp) rfl
      clear hdep ho hJ
      simp only [fill, slotOf, List.size_toArray, List.length_cons, List.length_nil, Nat.reduceAdd, List.getElem?_toArray, List.getElem?_cons_zero, List.getElem?_cons_succ, Option.bind_some, Act.put, List.setIfInBounds_toArray, List.set_cons_zero, List.set_cons_succ] at hK ⊢
      rw [h1]
      go_simp
      exact hK _ _ HJ.out rfl (fun j y h => h) _ (by rw [h1]; rfl)
    · obtain rfl := Option.some.inj ho.symm
      have h1 : V 4 = .pointer (some ⟨b3, 1, none⟩) := hdep ⟨4, .data⟩ (by simp) rfl
      have cc : w5.cell? ⟨b3, 1, none⟩ = some (.int .i64 y.r.time) := (hJ.cell (p := ⟨b3, 1, none⟩) HL3.out).trans cy1.out
      clear hdep ho hJ
      simp only [fill, slotOf, List.size_toArray, List.length_cons, List.length_nil, Nat.reduceAdd, List.getElem?_toArray, List.getElem?_cons_zero, List.getElem?_cons_succ, Option.bind_some, Act.put, List.setIfInBounds_toArray, List.set_cons_zero, List.set_cons_succ] at hK ⊢
      rw [h1]
      go_simp
      exact hK _ _ HJ.out rfl (fun j y h => h) _ (by rw [h1]; rfl)
    · obtain rfl := Option.some.inj ho.symm
      have h1 : V 2 = .int .i64 x.r.time := hdep ⟨2, .data⟩ (by simp) rfl
      have h2 : V 5 = .int .i64 y.r.time := hdep ⟨5, .data⟩ (by simp) rfl
      clear hdep ho hJ
      simp only [fill, slotOf, List.size_toArray, List.length_cons, List.length_nil, Nat.reduceAdd, List.getElem?_toArray, List.getElem?_cons_zero, List.getElem?_cons_succ, Option.bind_some, Act.put, List.setIfInBounds_toArray, List.set_cons_zero, List.set_cons_succ] at hK ⊢
      rw [h1, h2]
      go_simp
      refine (cmp_any x.r.time y.r.time _).mono ?_
      rintro e w6 ⟨rfl, hb6⟩
      exact hK _ _ (HJ.out.trans (hb6.mono HJ.out.size)) rfl (CmpF.mono hb6) _ (by rw [h1, h2]; rfl)
    · obtain rfl := Option.some.inj ho.symm
      clear hdep ho hJ
      simp only [fill, slotOf, List.size_toArray, List.length_cons, List.length_nil, Nat.reduceAdd, List.getElem?_toArray, List.getElem?_cons_zero, List.getElem?_cons_succ, Option.bind_some, Act.put, List.setIfInBounds_toArray, List.set_cons_zero, List.set_cons_succ] at hK ⊢
      go_simp
      exact hK _ _ HJ.out rfl (fun j y h => h) _ rfl
    · obtain rfl := Option.some.inj ho.symm
      have h1 : V 7 = .pointer (some ⟨b2, 6, none⟩) := hdep ⟨7, .data⟩ (by simp) rfl
      have cc : w5.cell? ⟨b2, 6, none⟩ = some (.int .i64 x.who) := (hJ.cell (p := ⟨b2, 6, none⟩) HL2.out).trans cx6.out
      clear hdep ho hJ
      simp only [fill, slotOf, List.size_toArray, List.length_cons, List.length_nil, Nat.reduceAdd, List.getElem?_toArray, List.getElem?_cons_zero, List.getElem?_cons_succ, Option.bind_some, Act.put, List.setIfInBounds_toArray, List.set_cons_zero, List.set_cons_succ] at hK ⊢
      rw [h1]
      go_simp
      exact hK _ _ HJ.out rfl (fun j y h => h) _ (by rw [h1]; rfl)
    · obtain rfl := Option.some.inj ho.symm
      clear hdep ho hJ
      simp only [fill, slotOf, List.size_toArray, List.length_cons, List.length_nil, Nat.reduceAdd, List.getElem?_toArray, List.getElem?_cons_zero, List.getElem?_cons_succ, Option.bind_some, Act.put, List.setIfInBounds_toArray, List.set_cons_zero, List.set_cons_succ] at hK ⊢
      go_simp
      exact hK _ _ HJ.out rfl (fun j y h => h) _ rfl
    · obtain rfl := Option.some.inj ho.symm
      have h1 : V 9 = .pointer (some ⟨b3, 6, none⟩) := hdep ⟨9, .data⟩ (by simp) rfl
      have cc : w5.cell? ⟨b3, 6, none⟩ = some (.int .i64 y.who) := (hJ.cell (p := ⟨b3, 6, none⟩) HL3.out).trans cy6.out
      clear hdep ho hJ
      simp only [fill, slotOf, List.size_toArray, List.length_cons, List.length_nil, Nat.reduceAdd, List.getElem?_toArray, List.getElem?_cons_zero, List.getElem?_cons_succ, Option.bind_some, Act.put, List.setIfInBounds_toArray, List.set_cons_zero, List.set_cons_succ] at hK ⊢
      rw [h1]
      go_simp
      exact hK _ _ HJ.out rfl (fun j y h => h) _ (by rw [h1]; rfl)
    · obtain rfl := Option.some.inj ho.symm
      have h1 : V 8 = .int .i64 x.who := hdep ⟨8, .data⟩ (by simp) rfl
      have h2 : V 10 = .int .i64 y.who := hdep ⟨10, .data⟩ (by simp) rfl
      clear hdep ho hJ
      simp only [fill, slotOf, List.size_toArray, List.length_cons, List.length_nil, Nat.reduceAdd, List.getElem?_toArray, List.getElem?_cons_zero, List.getElem?_cons_succ, Option.bind_some, Act.put, List.setIfInBounds_toArray, List.set_cons_zero, List.set_cons_succ] at hK ⊢
      rw [h1, h2]
      go_simp
      refine (cmp_any x.who y.who _).mono ?_
      rintro e w6 ⟨rfl, hb6⟩
      exact hK _ _ (HJ.out.trans (hb6.mono HJ.out.size)) rfl (CmpF.mono hb6) _ (by rw [h1, h2]; rfl)
    · obtain rfl := Option.some.inj ho.symm
      clear hdep ho hJ
      simp only [fill, slotOf, List.size_toArray, List.length_cons, List.length_nil, Nat.reduceAdd, List.getElem?_toArray, List.getElem?_cons_zero, List.getElem?_cons_succ, Option.bind_some, Act.put, List.setIfInBounds_toArray, List.set_cons_zero, List.set_cons_succ] at hK ⊢
      go_simp
      exact hK _ _ HJ.out rfl (fun j y h => h) _ rfl
    · obtain rfl := Option.some.inj ho.symm
      have h1 : V 12 = .pointer (some ⟨b2, 7, none⟩) := hdep ⟨12, .data⟩ (by simp) rfl
      have cc : w5.cell? ⟨b2, 7, none⟩ = some (.int .i64 x.sq) := (hJ.cell (p := ⟨b2, 7, none⟩) HL2.out).trans cx7.out
      clear hdep ho hJ
      simp only [fill, slotOf, List.size_toArray, List.length_cons, List.length_nil, Nat.reduceAdd, List.getElem?_toArray, List.getElem?_cons_zero, List.getElem?_cons_succ, Option.bind_some, Act.put, List.setIfInBounds_toArray, List.set_cons_zero, List.set_cons_succ] at hK ⊢
      rw [h1]
      go_simp
      exact hK _ _ HJ.out rfl (fun j y h => h) _ (by rw [h1]; rfl)
    · obtain rfl := Option.some.inj ho.symm
      clear hdep ho hJ
      simp only [fill, slotOf, List.size_toArray, List.length_cons, List.length_nil, Nat.reduceAdd, List.getElem?_toArray, List.getElem?_cons_zero, List.getElem?_cons_succ, Option.bind_some, Act.put, List.setIfInBounds_toArray, List.set_cons_zero, List.set_cons_succ] at hK ⊢
      go_simp
      exact hK _ _ HJ.out rfl (fun j y h => h) _ rfl
    · obtain rfl := Option.some.inj ho.symm
      have h1 : V 14 = .pointer (some ⟨b3, 7, none⟩) := hdep ⟨14, .data⟩ (by simp) rfl
      have cc : w5.cell? ⟨b3, 7, none⟩ = some (.int .i64 y.sq) := (hJ.cell (p := ⟨b3, 7, none⟩) HL3.out).trans cy7.out
      clear hdep ho hJ
      simp only [fill, slotOf, List.size_toArray, List.length_cons, List.length_nil, Nat.reduceAdd, List.getElem?_toArray, List.getElem?_cons_zero, List.getElem?_cons_succ, Option.bind_some, Act.put, List.setIfInBounds_toArray, List.set_cons_zero, List.set_cons_succ] at hK ⊢
      rw [h1]
      go_simp
      exact hK _ _ HJ.out rfl (fun j y h => h) _ (by rw [h1]; rfl)
    · obtain rfl := Option.some.inj ho.symm
      have h1 : V 13 = .int .i64 x.sq := hdep ⟨13, .data⟩ (by simp) rfl
      have h2 : V 15 = .int .i64 y.sq := hdep ⟨15, .data⟩ (by simp) rfl
      clear hdep ho hJ
      simp only [fill, slotOf, List.size_toArray, List.length_cons, List.length_nil, Nat.reduceAdd, List.getElem?_toArray, List.getElem?_cons_zero, List.getElem?_cons_succ, Option.bind_some, Act.put, List.setIfInBounds_toArray, List.set_cons_zero, List.set_cons_succ] at hK ⊢
      rw [h1, h2]
      go_simp
      refine (cmp_any x.sq y.sq _).mono ?_
      rintro e w6 ⟨rfl, hb6⟩
      exact hK _ _ (HJ.out.trans (hb6.mono HJ.out.size)) rfl (CmpF.mono hb6) _ (by rw [h1, h2]; rfl)
    · obtain rfl := Option.some.inj ho.symm
      clear hdep ho hJ
      simp only [fill, slotOf, List.size_toArray, List.length_cons, List.length_nil, Nat.reduceAdd, List.getElem?_toArray, List.getElem?_cons_zero, List.getElem?_cons_succ, Option.bind_some, Act.put, List.setIfInBounds_toArray, List.set_cons_zero, List.set_cons_succ] at hK ⊢
      go_simp
      exact hK _ _ HJ.out rfl (fun j y h => h) _ rfl
    · obtain rfl := Option.some.inj ho.symm
      have h1 : V 17 = .pointer (some ⟨b2, 8, none⟩) := hdep ⟨17, .data⟩ (by simp) rfl
      have cc : w5.cell? ⟨b2, 8, none⟩ = some (.int .i64 x.pl) := (hJ.cell (p := ⟨b2, 8, none⟩) HL2.out).trans cx8.out
      clear hdep ho hJ
      simp only [fill, slotOf, List.size_toArray, List.length_cons, List.length_nil, Nat.reduceAdd, List.getElem?_toArray, List.getElem?_cons_zero, List.getElem?_cons_succ, Option.bind_some, Act.put, List.setIfInBounds_toArray, List.set_cons_zero, List.set_cons_succ] at hK ⊢
      rw [h1]
      go_simp
      exact hK _ _ HJ.out rfl (fun j y h => h) _ (by rw [h1]; rfl)
    · obtain rfl := Option.some.inj ho.symm
      clear hdep ho hJ
      simp only [fill, slotOf, List.size_toArray, List.length_cons, List.length_nil, Nat.reduceAdd, List.getElem?_toArray, List.getElem?_cons_zero, List.getElem?_cons_succ, Option.bind_some, Act.put, List.setIfInBounds_toArray, List.set_cons_zero, List.set_cons_succ] at hK ⊢
      go_simp
      exact hK _ _ HJ.out rfl (fun j y h => h) _ rfl
    · obtain rfl := Option.some.inj ho.symm
      have h1 : V 19 = .pointer (some ⟨b3, 8, none⟩) := hdep ⟨19, .data⟩ (by simp) rfl
      have cc : w5.cell? ⟨b3, 8, none⟩ = some (.int .i64 y.pl) := (hJ.cell (p := ⟨b3, 8, none⟩) HL3.out).trans cy8.out
      clear hdep ho hJ
      simp only [fill, slotOf, List.size_toArray, List.length_cons, List.length_nil, Nat.reduceAdd, List.getElem?_toArray, List.getElem?_cons_zero, List.getElem?_cons_succ, Option.bind_some, Act.put, List.setIfInBounds_toArray, List.set_cons_zero, List.set_cons_succ] at hK ⊢
      rw [h1]
      go_simp
      exact hK _ _ HJ.out rfl (fun j y h => h) _ (by rw [h1]; rfl)
    · obtain rfl := Option.some.inj ho.symm
      have h1 : V 18 = .int .i64 x.pl := hdep ⟨18, .data⟩ (by simp) rfl
      have h2 : V 20 = .int .i64 y.pl := hdep ⟨20, .data⟩ (by simp) rfl
      clear hdep ho hJ
      simp only [fill, slotOf, List.size_toArray, List.length_cons, List.length_nil, Nat.reduceAdd, List.getElem?_toArray, List.getElem?_cons_zero, List.getElem?_cons_succ, Option.bind_some, Act.put, List.setIfInBounds_toArray, List.set_cons_zero, List.set_cons_succ] at hK ⊢
      rw [h1, h2]
      go_simp
      refine (cmp_any x.pl y.pl _).mono ?_
      rintro e w6 ⟨rfl, hb6⟩
      exact hK _ _ (HJ.out.trans (hb6.mono HJ.out.size)) rfl (CmpF.mono hb6) _ (by rw [h1, h2]; rfl)
    · obtain rfl := Option.some.inj ho.symm
      have h0 : V 6 = .int .i64 (cmp3 x.r.time y.r.time) := hdep ⟨6, .data⟩ (by simp) rfl
      have h1 : V 11 = .int .i64 (cmp3 x.who y.who) := hdep ⟨11, .data⟩ (by simp) rfl
      have h2 : V 16 = .int .i64 (cmp3 x.sq y.sq) := hdep ⟨16, .data⟩ (by simp) rfl
      have h3 : V 21 = .int .i64 (cmp3 x.pl y.pl) := hdep ⟨21, .data⟩ (by simp) rfl
      clear hdep ho hJ
      simp only [fill, slotOf, List.size_toArray, List.length_cons, List.length_nil, Nat.reduceAdd, List.getElem?_toArray, List.getElem?_cons_zero, List.getElem?_cons_succ, Option.bind_some, Act.put, List.setIfInBounds_toArray, List.set_cons_zero, List.set_cons_succ] at hK ⊢
      rw [h0, h1, h2, h3]
      go_simp
      have HA := Lib.hid ((Below.refl w5.heap.size w5).alloc (Nat.le_refl _) (.cells #[.int .i64 (cmp3 x.r.time y.r.time), .int .i64 (cmp3 x.who y.who), .int .i64 (cmp3 x.sq y.sq), .int .i64 (cmp3 x.pl y.pl)] 3))
      have HG := Lib.hid (heap_alloc_new w5 (.cells #[.int .i64 (cmp3 x.r.time y.r.time), .int .i64 (cmp3 x.who y.who), .int .i64 (cmp3 x.sq y.sq), .int .i64 (cmp3 x.pl y.pl)] 3))
      refine hK _ _ (HJ.out.trans (HA.out.mono HJ.out.size)) ⟨w5.heap.size, rfl, (Array.getElem?_eq_some_iff.1 HG.out).1, fun k hk => ?_⟩ (CmpF.mono HA.out) _ (by rw [h0, h1, h2, h3]; rfl)
      rcases (by omega : k = 0 ∨ k = 1 ∨ k = 2 ∨ k = 3) with rfl | rfl | rfl | rfl
      all_goals exact cell_blk HG.out rfl
    · obtain rfl := Option.some.inj ho.symm
      obtain ⟨b, h1, h2, h3⟩ : CmpF x y b2 b3 22 (V 22) w5 := hdep ⟨22, .data⟩ (by simp) rfl
      have HO := Lib.hid (or_any (v := fun k => cmp3 (x.key.getD k 0) (y.key.getD k 0)) h3)
      clear hdep ho hJ h2 h3
      simp only [fill, slotOf, List.size_toArray, List.length_cons, List.length_nil, Nat.reduceAdd, List.getElem?_toArray, List.getElem?_cons_zero, List.getElem?_cons_succ, Option.bind_some, Act.put, List.setIfInBounds_toArray, List.set_cons_zero, List.set_cons_succ] at hK ⊢
      rw [h1]
      go_simp
      refine HO.out.mono ?_
      rintro e w6 ⟨rfl, hb6⟩
      rw [or4_cmp]
      exact hK _ _ (HJ.out.trans (hb6.mono HJ.out.size)) rfl (CmpF.mono hb6) _ (by rw [h1]; rfl)
    · obtain rfl := Option.some.inj ho.symm
      have h1 : V 23 = .int .i64 (cmpRow x y) := hdep ⟨23, .data⟩ (by simp) rfl
      clear hdep ho hJ
      simp only [fill, slotOf, List.size_toArray, List.length_cons, List.length_nil, Nat.reduceAdd, List.getElem?_toArray, List.getElem?_cons_zero, List.getElem?_cons_succ, Option.bind_some, Act.put, List.setIfInBounds_toArray, List.set_cons_zero, List.set_cons_succ] at hK ⊢
      rw [h1]
      go_simp
      exact hK _ _ HJ.out rfl (fun j y h => h) _ (by rw [h1]; rfl)
  · intro V w5 hJ hall
    have h24 : V 24 = .int .i64 (cmpRow x y) := hall 24 (by decide)
    have HB5 := Lib.hid (HB.out.trans (hJ.mono HB.out.size))
    clear hall hJ
    simp only [fill, slotOf, List.size_toArray, List.length_cons, List.length_nil, Nat.reduceAdd, List.getElem?_toArray, List.getElem?_cons_zero, List.getElem?_cons_succ, Option.bind_some, Act.put, List.setIfInBounds_toArray, List.set_cons_zero, List.set_cons_succ]
    rw [h24]
    go_wp2_with fail
    go_ret
    exact ⟨rfl, HB5.out⟩
end Go.Proofs.Ytjbljplgkbnpmaa
