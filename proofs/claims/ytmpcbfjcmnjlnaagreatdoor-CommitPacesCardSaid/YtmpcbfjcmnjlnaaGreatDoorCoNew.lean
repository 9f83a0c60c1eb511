/- commit.New, walked. Written by genconew.py. -/
import Derived.Test.YtmpcbfjcmnjlnaaGreatDoorCoFew
import Derived.Test.YtmpcbfjcmnjlnaaGreatDoorAnyOrd
namespace Go.Proofs.YtmpcbfjcmnjlnaaGreatDoor
open Go.RowKit
set_option linter.unusedVariables false

/-- a slice whose cells are known, in another block than this one -/
def Good (K b3 : Nat) (w : World) (x : Value) : Prop := ∃ a n c l, x = .slice a n c ∧ n ≤ 1000 ∧ CellsAt w a n c K l ∧ (∀ q o s, a = some ⟨q, o, s⟩ → 0 < n → q ≠ b3)
theorem Good.turns {K b3 : Nat} {w w' : World} {x : Value} (h : Good K b3 w x) (ht : Turns b3 w w') : Good K b3 w' x := by
  obtain ⟨a, n, c, l, rfl, hn, hc, hq⟩ := h
  refine ⟨a, n, c, l, rfl, hn, ⟨hc.len, hc.cap, hc.capm, hc.nl, hc.wid, fun hp => ?_⟩, hq⟩
  obtain ⟨b, off, ha, hlt, hcell⟩ := hc.cells hp
  have hb := ht.block b hlt (hq _ _ _ ha hp)
  refine ⟨b, off, ha, Nat.lt_of_lt_of_le hlt ht.size, fun i hi j u hu => ?_⟩
  rw [← hcell i hi j u hu]
  simp only [World.cell?, hb]
def NewJ (w0 : World) (b3 : Nat) (ct fe ag li cn : Int) (w : World) : Prop :=
  Turns b3 w0 w ∧ ∃ x0 x1 x2, w.heap[b3]? = some (.cells #[x0, x1, x2, .int .i64 ct, .int .i64 fe, .int .i64 ag, .int .i64 li, .int .i64 cn] 28 (0, 0)) ∧ Good 9 b3 w x0 ∧ Good 1 b3 w x1 ∧ Good 2 b3 w x2
def NewF (b3 : Nat) : Nat → Value → World → Prop
  | 0, x, _ => x = .pointer (some ⟨b3, 0, none⟩)
  | 1, x, w => Good 9 b3 w x
  | 2, x, w => Good 9 b3 w x
  | 3, x, _ => x = .pointer (some ⟨b3, 1, none⟩)
  | 4, x, w => Good 1 b3 w x
  | 5, x, w => Good 1 b3 w x
  | 6, x, _ => x = .pointer (some ⟨b3, 2, none⟩)
  | 7, x, w => Good 2 b3 w x
  | 8, x, w => Good 2 b3 w x
  | 9, x, _ => x = .pointer (some ⟨b3, 0, none⟩)
  | 10, _, _ => True
  | 11, x, _ => x = .pointer (some ⟨b3, 1, none⟩)
  | 12, _, _ => True
  | 13, x, _ => x = .pointer (some ⟨b3, 2, none⟩)
  | _ + 14, _, _ => True
theorem NewF.mono {b3 : Nat} {w w' : World} (ht : Turns b3 w w') : ∀ j y, NewF b3 j y w → NewF b3 j y w' := fun j y h => by
  match j, h with
  | 0, h => exact h
  | 1, h => exact Good.turns h ht
  | 2, h => exact Good.turns h ht
  | 3, h => exact h
  | 4, h => exact Good.turns h ht
  | 5, h => exact Good.turns h ht
  | 6, h => exact h
  | 7, h => exact Good.turns h ht
  | 8, h => exact Good.turns h ht
  | 9, h => exact h
  | 10, _ => trivial
  | 11, h => exact h
  | 12, _ => trivial
  | 13, h => exact h
  | _ + 14, _ => trivial
theorem NewJ.at0 {w0 w : World} {b3 : Nat} {ct fe ag li cn : Int} (h : NewJ w0 b3 ct fe ag li cn w) : ∃ a n c, w.cell? ⟨b3, 0, none⟩ = some (.slice a n c) ∧ w.frozen? ⟨b3, 0, none⟩ = false ∧ Good 9 b3 w (.slice a n c) := by
  obtain ⟨_, x0, x1, x2, hg, g0, g1, g2⟩ := h
  have cc := cell_blk hg (i := 0) (u := x0) rfl
  obtain ⟨a, n, c, l, he, hr⟩ := g0
  exact ⟨a, n, c, by rw [cc, he], fro_blk hg 0, a, n, c, l, rfl, hr⟩
theorem NewJ.at1 {w0 w : World} {b3 : Nat} {ct fe ag li cn : Int} (h : NewJ w0 b3 ct fe ag li cn w) : ∃ a n c, w.cell? ⟨b3, 1, none⟩ = some (.slice a n c) ∧ w.frozen? ⟨b3, 1, none⟩ = false ∧ Good 1 b3 w (.slice a n c) := by
  obtain ⟨_, x0, x1, x2, hg, g0, g1, g2⟩ := h
  have cc := cell_blk hg (i := 1) (u := x1) rfl
  obtain ⟨a, n, c, l, he, hr⟩ := g1
  exact ⟨a, n, c, by rw [cc, he], fro_blk hg 1, a, n, c, l, rfl, hr⟩
theorem NewJ.at2 {w0 w : World} {b3 : Nat} {ct fe ag li cn : Int} (h : NewJ w0 b3 ct fe ag li cn w) : ∃ a n c, w.cell? ⟨b3, 2, none⟩ = some (.slice a n c) ∧ w.frozen? ⟨b3, 2, none⟩ = false ∧ Good 2 b3 w (.slice a n c) := by
  obtain ⟨_, x0, x1, x2, hg, g0, g1, g2⟩ := h
  have cc := cell_blk hg (i := 2) (u := x2) rfl
  obtain ⟨a, n, c, l, he, hr⟩ := g2
  exact ⟨a, n, c, by rw [cc, he], fro_blk hg 2, a, n, c, l, rfl, hr⟩
theorem Good.sl {K b3 : Nat} {w : World} {x : Value} (h : Good K b3 w x) : ∃ a n c, x = .slice a n c := by
  obtain ⟨a, n, c, _, he, _⟩ := h
  exact ⟨a, n, c, he⟩
theorem NewJ.below {w0 w w' : World} {b3 : Nat} {ct fe ag li cn : Int} (h : NewJ w0 b3 ct fe ag li cn w) (hb : Below w.heap.size w w') : NewJ w0 b3 ct fe ag li cn w' := by
  obtain ⟨ht, x0, x1, x2, hg, h0, h1, h2⟩ := h
  have t2 : Turns b3 w w' := (Turns.refl b3 w).below hb
  exact ⟨ht.trans t2, x0, x1, x2, (hb.block b3 (Array.getElem?_eq_some_iff.1 hg).1).trans hg, h0.turns t2, h1.turns t2, h2.turns t2⟩
theorem NewJ.set0 {w0 w : World} {b3 : Nat} {ct fe ag li cn : Int} (h : NewJ w0 b3 ct fe ag li cn w) {x : Value} (hx : Good 9 b3 w x) : NewJ w0 b3 ct fe ag li cn (w.setCell ⟨b3, 0, none⟩ x) := by
  obtain ⟨ht, x0, x1, x2, hg, h0, h1, h2⟩ := h
  have t2 : Turns b3 w (w.setCell ⟨b3, 0, none⟩ x) := (Turns.refl b3 w).set 0 x
  exact ⟨ht.trans t2, x, x1, x2, heap_set hg 0 x, hx.turns t2, h1.turns t2, h2.turns t2⟩
theorem NewJ.set1 {w0 w : World} {b3 : Nat} {ct fe ag li cn : Int} (h : NewJ w0 b3 ct fe ag li cn w) {x : Value} (hx : Good 1 b3 w x) : NewJ w0 b3 ct fe ag li cn (w.setCell ⟨b3, 1, none⟩ x) := by
  obtain ⟨ht, x0, x1, x2, hg, h0, h1, h2⟩ := h
  have t2 : Turns b3 w (w.setCell ⟨b3, 1, none⟩ x) := (Turns.refl b3 w).set 1 x
  exact ⟨ht.trans t2, x0, x, x2, heap_set hg 1 x, h0.turns t2, hx.turns t2, h2.turns t2⟩
theorem NewJ.set2 {w0 w : World} {b3 : Nat} {ct fe ag li cn : Int} (h : NewJ w0 b3 ct fe ag li cn w) {x : Value} (hx : Good 2 b3 w x) : NewJ w0 b3 ct fe ag li cn (w.setCell ⟨b3, 2, none⟩ x) := by
  obtain ⟨ht, x0, x1, x2, hg, h0, h1, h2⟩ := h
  have t2 : Turns b3 w (w.setCell ⟨b3, 2, none⟩ x) := (Turns.refl b3 w).set 2 x
  exact ⟨ht.trans t2, x0, x1, x, heap_set hg 2 x, h0.turns t2, h1.turns t2, hx.turns t2⟩

set_option maxRecDepth 100000 in
theorem conew_no {w : World} {a0 a1 a2 : Option Addr} {n0 c0 n1 c1 n2 c2 : Nat} {ct fe ag li cn tr wt : Int} (h : fitsB tr wt = false) :
    Calls Tryz.prog 6 #[.agg #[.slice a0 n0 c0, .slice a1 n1 c1, .slice a2 n2 c2, .int .i64 ct, .int .i64 fe, .int .i64 ag, .int .i64 li, .int .i64 cn], .int .i64 tr, .int .i64 wt] w fun e w' => e = .returned (.pointer none) ∧ Below w.heap.size w w' := by
  have HB := Lib.hid ((Below.refl w.heap.size w).alloc (Nat.le_refl _) (.cells #[.slice a0 n0 c0, .slice a1 n1 c1, .slice a2 n2 c2, .int .i64 ct, .int .i64 fe, .int .i64 ag, .int .i64 li, .int .i64 cn] 28))
  have HF := Lib.hid (fun w => fits_any tr wt w)
  rw [h] at HF
  clear h
  go_enter Tryz.func6, Tryz.ntmps6
  go_wp2_with fail
  refine (HF.out _).mono ?_
  rintro e w2 ⟨rfl, rfl⟩
  go_wp2_with fail
  go_ret
  exact ⟨rfl, HB.out⟩

set_option maxRecDepth 100000 in
set_option maxHeartbeats 8000000 in
theorem conew_yes {w : World} {a0 a1 a2 : Option Addr} {n0 c0 n1 c1 n2 c2 : Nat} {l0 l1 l2 : List (List Value)} {ct fe ag li cn tr wt : Int} (h0 : CellsAt w a0 n0 c0 9 l0) (h1 : CellsAt w a1 n1 c1 1 l1) (h2 : CellsAt w a2 n2 c2 2 l2) (hn : n0 ≤ 30 ∧ n1 ≤ 30 ∧ n2 ≤ 70) (h : fitsB tr wt = true) :
    Calls Tryz.prog 6 #[.agg #[.slice a0 n0 c0, .slice a1 n1 c1, .slice a2 n2 c2, .int .i64 ct, .int .i64 fe, .int .i64 ag, .int .i64 li, .int .i64 cn], .int .i64 tr, .int .i64 wt] w fun e w' => ∃ (B : Nat) (e0 e1 e2 : Value), e = .returned (.pointer (some ⟨B, 0, none⟩)) ∧ w'.heap[B]? = some (.cells (coA e0 e1 e2 ct fe ag li cn tr wt 0 0 false 0 0 0) 62 (0, 0)) ∧ w.heap.size ≤ B ∧ Below w.heap.size w w' := by
  obtain ⟨w1, hw1⟩ : ∃ w1, w1 = w.alloc (.cells #[.slice a0 n0 c0, .slice a1 n1 c1, .slice a2 n2 c2, .int .i64 ct, .int .i64 fe, .int .i64 ag, .int .i64 li, .int .i64 cn] 28) := ⟨_, rfl⟩
  obtain ⟨b3, hb3⟩ : ∃ b3, b3 = w.heap.size := ⟨_, rfl⟩
  have hb1 : Below w.heap.size w w1 := by rw [hw1]; exact (Below.refl _ _).alloc (Nat.le_refl _) _
  have g1 : w1.heap[b3]? = some (.cells #[.slice a0 n0 c0, .slice a1 n1 c1, .slice a2 n2 c2, .int .i64 ct, .int .i64 fe, .int .i64 ag, .int .i64 li, .int .i64 cn] 28 (0, 0)) := by rw [hw1, hb3]; exact heap_alloc_new w _
  have good : ∀ (K : Nat) (a : Option Addr) (n c : Nat) (l : List (List Value)), CellsAt w a n c K l → n ≤ 1000 → Good K b3 w1 (.slice a n c) := by
    intro K a n c l hc hn
    refine ⟨a, n, c, l, rfl, hn, hc.kept hb1, fun q o s e hp => ?_⟩
    obtain ⟨b, off, ha, hlt, _⟩ := hc.cells hp
    rw [e] at ha
    cases ha
    omega
  have hJ0 : NewJ w1 b3 ct fe ag li cn w1.drew := ⟨(Turns.refl b3 w1).drew, _, _, _, g1, (good 9 _ _ _ _ h0 (by omega)).turns (Turns.refl b3 w1).drew, (good 1 _ _ _ _ h1 (by omega)).turns (Turns.refl b3 w1).drew, (good 2 _ _ _ _ h2 (by omega)).turns (Turns.refl b3 w1).drew⟩
  have HJ0 := Lib.hid hJ0
  have HF := Lib.hid (fun w => fits_any tr wt w)
  rw [h] at HF
  have HB1 := Lib.hid hb1
  have HW1 := Lib.hid hw1
  have HB3 := Lib.hid hb3
  clear h h0 h1 h2 hn g1 good hJ0 hb1 hw1 hb3
  go_enter Tryz.func6, Tryz.ntmps6
  go_wp2_with fail
  refine (HF.out _).mono ?_
  rintro e w2 ⟨rfl, rfl⟩
  go_wp2_with fail
  rw [← HW1.out, ← HB3.out]
  refine wp_region_fill (by kernel_rfl) (by kernel_rfl) (by kernel_rfl) (NewJ w1 b3 ct fe ag li cn) (NewF b3) HJ0.out ?_ ?_
  · intro i o ho V w5 K hJ hdep hK
    have HJ := Lib.hid hJ
    obtain ⟨ya0, yn0, yc0, cc0, ff0, hg0⟩ := NewJ.at0 hJ
    obtain ⟨ya1, yn1, yc1, cc1, ff1, hg1⟩ := NewJ.at1 hJ
    obtain ⟨ya2, yn2, yc2, cc2, ff2, hg2⟩ := NewJ.at2 hJ
    have HG0 := Lib.hid hg0
    have HG1 := Lib.hid hg1
    have HG2 := Lib.hid hg2
    have hlt3 : b3 < w5.heap.size := World.block_lt_of_cell? w5 _ cc0
    clear hg0 hg1 hg2
    have hi15 : i < 15 := (Array.getElem?_eq_some_iff.1 ho).1
    have hcs : i = 0 ∨ i = 1 ∨ i = 2 ∨ i = 3 ∨ i = 4 ∨ i = 5 ∨ i = 6 ∨ i = 7 ∨ i = 8 ∨ i = 9 ∨ i = 10 ∨ i = 11 ∨ i = 12 ∨ i = 13 ∨ i = 14 := by omega
    rcases hcs with rfl | rfl | rfl | rfl | rfl | rfl | rfl | rfl | rfl | rfl | rfl | rfl | rfl | rfl | rfl
    · obtain rfl := Option.some.inj ho.symm
      clear hdep ho hJ
      simp only [fill, slotOf, List.size_toArray, List.length_cons, List.length_nil, Nat.reduceAdd, List.getElem?_toArray, List.getElem?_cons_zero, List.getElem?_cons_succ, Option.bind_some, Act.put, List.setIfInBounds_toArray, List.set_cons_zero, List.set_cons_succ] at hK ⊢
      go_simp
      exact hK _ _ HJ.out rfl (fun j y h => h) _ rfl
    · obtain rfl := Option.some.inj ho.symm
      have h1 : V 0 = .pointer (some ⟨b3, 0, none⟩) := hdep ⟨0, .data⟩ (by simp) rfl
      clear hdep ho hJ
      simp only [fill, slotOf, List.size_toArray, List.length_cons, List.length_nil, Nat.reduceAdd, List.getElem?_toArray, List.getElem?_cons_zero, List.getElem?_cons_succ, Option.bind_some, Act.put, List.setIfInBounds_toArray, List.set_cons_zero, List.set_cons_succ] at hK ⊢
      rw [h1]
      go_simp
      exact hK _ _ HJ.out HG0.out (fun j y h => h) _ (by rw [h1]; rfl)
    · obtain rfl := Option.some.inj ho.symm
      obtain ⟨a, n, c, l, h1, hn, hc, hq⟩ : Good 9 b3 w5 (V 1) := hdep ⟨1, .data⟩ (by simp) rfl
      have HC := Lib.hid (clone_ent hc hn)
      clear hdep ho hJ hc hq
      simp only [fill, slotOf, List.size_toArray, List.length_cons, List.length_nil, Nat.reduceAdd, List.getElem?_toArray, List.getElem?_cons_zero, List.getElem?_cons_succ, Option.bind_some, Act.put, List.setIfInBounds_toArray, List.set_cons_zero, List.set_cons_succ] at hK ⊢
      rw [h1]
      go_simp
      refine HC.out.mono ?_
      rintro e w6 ⟨a', c', rfl, ⟨hc6, hq6⟩, hb6⟩
      exact hK _ _ (HJ.out.below hb6) ⟨a', n, c', l, rfl, hn, hc6, fun q o s e hp => by have := hq6 q o s e hp; omega⟩ (NewF.mono ((Turns.refl b3 w5).below hb6)) _ (by rw [h1]; rfl)
    · obtain rfl := Option.some.inj ho.symm
      clear hdep ho hJ
      simp only [fill, slotOf, List.size_toArray, List.length_cons, List.length_nil, Nat.reduceAdd, List.getElem?_toArray, List.getElem?_cons_zero, List.getElem?_cons_succ, Option.bind_some, Act.put, List.setIfInBounds_toArray, List.set_cons_zero, List.set_cons_succ] at hK ⊢
      go_simp
      exact hK _ _ HJ.out rfl (fun j y h => h) _ rfl
    · obtain rfl := Option.some.inj ho.symm
      have h1 : V 3 = .pointer (some ⟨b3, 1, none⟩) := hdep ⟨3, .data⟩ (by simp) rfl
      clear hdep ho hJ
      simp only [fill, slotOf, List.size_toArray, List.length_cons, List.length_nil, Nat.reduceAdd, List.getElem?_toArray, List.getElem?_cons_zero, List.getElem?_cons_succ, Option.bind_some, Act.put, List.setIfInBounds_toArray, List.set_cons_zero, List.set_cons_succ] at hK ⊢
      rw [h1]
      go_simp
      exact hK _ _ HJ.out HG1.out (fun j y h => h) _ (by rw [h1]; rfl)
    · obtain rfl := Option.some.inj ho.symm
      obtain ⟨a, n, c, l, h1, hn, hc, hq⟩ : Good 1 b3 w5 (V 4) := hdep ⟨4, .data⟩ (by simp) rfl
      have HC := Lib.hid (clone_str hc hn)
      clear hdep ho hJ hc hq
      simp only [fill, slotOf, List.size_toArray, List.length_cons, List.length_nil, Nat.reduceAdd, List.getElem?_toArray, List.getElem?_cons_zero, List.getElem?_cons_succ, Option.bind_some, Act.put, List.setIfInBounds_toArray, List.set_cons_zero, List.set_cons_succ] at hK ⊢
      rw [h1]
      go_simp
      refine HC.out.mono ?_
      rintro e w6 ⟨a', c', rfl, ⟨hc6, hq6⟩, hb6⟩
      exact hK _ _ (HJ.out.below hb6) ⟨a', n, c', l, rfl, hn, hc6, fun q o s e hp => by have := hq6 q o s e hp; omega⟩ (NewF.mono ((Turns.refl b3 w5).below hb6)) _ (by rw [h1]; rfl)
    · obtain rfl := Option.some.inj ho.symm
      clear hdep ho hJ
      simp only [fill, slotOf, List.size_toArray, List.length_cons, List.length_nil, Nat.reduceAdd, List.getElem?_toArray, List.getElem?_cons_zero, List.getElem?_cons_succ, Option.bind_some, Act.put, List.setIfInBounds_toArray, List.set_cons_zero, List.set_cons_succ] at hK ⊢
      go_simp
      exact hK _ _ HJ.out rfl (fun j y h => h) _ rfl
    · obtain rfl := Option.some.inj ho.symm
      have h1 : V 6 = .pointer (some ⟨b3, 2, none⟩) := hdep ⟨6, .data⟩ (by simp) rfl
      clear hdep ho hJ
      simp only [fill, slotOf, List.size_toArray, List.length_cons, List.length_nil, Nat.reduceAdd, List.getElem?_toArray, List.getElem?_cons_zero, List.getElem?_cons_succ, Option.bind_some, Act.put, List.setIfInBounds_toArray, List.set_cons_zero, List.set_cons_succ] at hK ⊢
      rw [h1]
      go_simp
      exact hK _ _ HJ.out HG2.out (fun j y h => h) _ (by rw [h1]; rfl)
    · obtain rfl := Option.some.inj ho.symm
      obtain ⟨a, n, c, l, h1, hn, hc, hq⟩ : Good 2 b3 w5 (V 7) := hdep ⟨7, .data⟩ (by simp) rfl
      have HC := Lib.hid (clone_mrk hc hn)
      clear hdep ho hJ hc hq
      simp only [fill, slotOf, List.size_toArray, List.length_cons, List.length_nil, Nat.reduceAdd, List.getElem?_toArray, List.getElem?_cons_zero, List.getElem?_cons_succ, Option.bind_some, Act.put, List.setIfInBounds_toArray, List.set_cons_zero, List.set_cons_succ] at hK ⊢
      rw [h1]
      go_simp
      refine HC.out.mono ?_
      rintro e w6 ⟨a', c', rfl, ⟨hc6, hq6⟩, hb6⟩
      exact hK _ _ (HJ.out.below hb6) ⟨a', n, c', l, rfl, hn, hc6, fun q o s e hp => by have := hq6 q o s e hp; omega⟩ (NewF.mono ((Turns.refl b3 w5).below hb6)) _ (by rw [h1]; rfl)
    · obtain rfl := Option.some.inj ho.symm
      clear hdep ho hJ
      simp only [fill, slotOf, List.size_toArray, List.length_cons, List.length_nil, Nat.reduceAdd, List.getElem?_toArray, List.getElem?_cons_zero, List.getElem?_cons_succ, Option.bind_some, Act.put, List.setIfInBounds_toArray, List.set_cons_zero, List.set_cons_succ] at hK ⊢
      go_simp
      exact hK _ _ HJ.out rfl (fun j y h => h) _ rfl
    · have hoo := Option.some.inj ho.symm
      obtain ⟨a, n, c, l, h2, hn, hc, hq⟩ : Good 9 b3 w5 (V 2) := hdep ⟨2, .data⟩ (by rw [hoo]; simp) rfl
      have HS := Lib.hid (NewJ.set0 hJ (x := .slice a n c) ⟨a, n, c, l, rfl, hn, hc, hq⟩)
      have HT := Lib.hid ((Turns.refl b3 w5).set 0 (.slice a n c))
      clear hn hc hq hJ
      obtain rfl := hoo
      have h1 : V 9 = .pointer (some ⟨b3, 0, none⟩) := hdep ⟨9, .data⟩ (by simp) rfl
      clear hdep ho
      simp only [fill, slotOf, List.size_toArray, List.length_cons, List.length_nil, Nat.reduceAdd, List.getElem?_toArray, List.getElem?_cons_zero, List.getElem?_cons_succ, Option.bind_some, Act.put, List.setIfInBounds_toArray, List.set_cons_zero, List.set_cons_succ] at hK ⊢
      rw [h1, h2]
      go_simp
      exact hK undef _ HS.out trivial (NewF.mono HT.out) _ (by rw [h1, h2]; rfl)
    · obtain rfl := Option.some.inj ho.symm
      clear hdep ho hJ
      simp only [fill, slotOf, List.size_toArray, List.length_cons, List.length_nil, Nat.reduceAdd, List.getElem?_toArray, List.getElem?_cons_zero, List.getElem?_cons_succ, Option.bind_some, Act.put, List.setIfInBounds_toArray, List.set_cons_zero, List.set_cons_succ] at hK ⊢
      go_simp
      exact hK _ _ HJ.out rfl (fun j y h => h) _ rfl
    · have hoo := Option.some.inj ho.symm
      obtain ⟨a, n, c, l, h2, hn, hc, hq⟩ : Good 1 b3 w5 (V 5) := hdep ⟨5, .data⟩ (by rw [hoo]; simp) rfl
      have HS := Lib.hid (NewJ.set1 hJ (x := .slice a n c) ⟨a, n, c, l, rfl, hn, hc, hq⟩)
      have HT := Lib.hid ((Turns.refl b3 w5).set 1 (.slice a n c))
      clear hn hc hq hJ
      obtain rfl := hoo
      have h1 : V 11 = .pointer (some ⟨b3, 1, none⟩) := hdep ⟨11, .data⟩ (by simp) rfl
      clear hdep ho
      simp only [fill, slotOf, List.size_toArray, List.length_cons, List.length_nil, Nat.reduceAdd, List.getElem?_toArray, List.getElem?_cons_zero, List.getElem?_cons_succ, Option.bind_some, Act.put, List.setIfInBounds_toArray, List.set_cons_zero, List.set_cons_succ] at hK ⊢
      rw [h1, h2]
      go_simp
      exact hK undef _ HS.out trivial (NewF.mono HT.out) _ (by rw [h1, h2]; rfl)
    · obtain rfl := Option.some.inj ho.symm
      clear hdep ho hJ
      simp only [fill, slotOf, List.size_toArray, List.length_cons, List.length_nil, Nat.reduceAdd, List.getElem?_toArray, List.getElem?_cons_zero, List.getElem?_cons_succ, Option.bind_some, Act.put, List.setIfInBounds_toArray, List.set_cons_zero, List.set_cons_succ] at hK ⊢
      go_simp
      exact hK _ _ HJ.out rfl (fun j y h => h) _ rfl
    · have hoo := Option.some.inj ho.symm
      obtain ⟨a, n, c, l, h2, hn, hc, hq⟩ : Good 2 b3 w5 (V 8) := hdep ⟨8, .data⟩ (by rw [hoo]; simp) rfl
      have HS := Lib.hid (NewJ.set2 hJ (x := .slice a n c) ⟨a, n, c, l, rfl, hn, hc, hq⟩)
      have HT := Lib.hid ((Turns.refl b3 w5).set 2 (.slice a n c))
      clear hn hc hq hJ
      obtain rfl := hoo
      have h1 : V 13 = .pointer (some ⟨b3, 2, none⟩) := hdep ⟨13, .data⟩ (by simp) rfl
      clear hdep ho
      simp only [fill, slotOf, List.size_toArray, List.length_cons, List.length_nil, Nat.reduceAdd, List.getElem?_toArray, List.getElem?_cons_zero, List.getElem?_cons_succ, Option.bind_some, Act.put, List.setIfInBounds_toArray, List.set_cons_zero, List.set_cons_succ] at hK ⊢
      rw [h1, h2]
      go_simp
      exact hK undef _ HS.out trivial (NewF.mono HT.out) _ (by rw [h1, h2]; rfl)
  · intro V w5 hJ hall
    obtain ⟨ht, x0, x1, x2, hg, ⟨y0, m0, k0, _, rfl, _⟩, ⟨y1, m1, k1, _, rfl, _⟩, ⟨y2, m2, k2, _, rfl, _⟩⟩ := hJ
    have hb5 : Below w.heap.size w w5 := ht.old HB1.out (Nat.le_of_eq HB3.out.symm) HB1.out.size
    have hlt := (Array.getElem?_eq_some_iff.1 hg).1
    have HB5 := Lib.hid hb5
    have r0 := cell_blk hg (i := 0) (u := .slice y0 m0 k0) rfl
    have r1 := cell_blk hg (i := 1) (u := .slice y1 m1 k1) rfl
    have r2 := cell_blk hg (i := 2) (u := .slice y2 m2 k2) rfl
    have r3 := cell_blk hg (i := 3) (u := .int .i64 ct) rfl
    have r4 := cell_blk hg (i := 4) (u := .int .i64 fe) rfl
    have r5 := cell_blk hg (i := 5) (u := .int .i64 ag) rfl
    have r6 := cell_blk hg (i := 6) (u := .int .i64 li) rfl
    have r7 := cell_blk hg (i := 7) (u := .int .i64 cn) rfl
    clear ht hg hall hb5
    simp only [fill, slotOf, List.size_toArray, List.length_cons, List.length_nil, Nat.reduceAdd, List.getElem?_toArray, List.getElem?_cons_zero, List.getElem?_cons_succ, Option.bind_some, Act.put, List.setIfInBounds_toArray, List.set_cons_zero, List.set_cons_succ]
    go_wp2_with fail
    go_region_held3 (fun w' => w'.cell? ⟨b3, 0, none⟩ = some (.slice y0 m0 k0) ∧ w'.cell? ⟨b3, 1, none⟩ = some (.slice y1 m1 k1) ∧ w'.cell? ⟨b3, 2, none⟩ = some (.slice y2 m2 k2) ∧ w'.cell? ⟨b3, 3, none⟩ = some (.int .i64 ct) ∧ w'.cell? ⟨b3, 4, none⟩ = some (.int .i64 fe) ∧ w'.cell? ⟨b3, 5, none⟩ = some (.int .i64 ag) ∧ w'.cell? ⟨b3, 6, none⟩ = some (.int .i64 li) ∧ w'.cell? ⟨b3, 7, none⟩ = some (.int .i64 cn)) (first | exact ⟨(hbq.cell (p := ⟨b3, 0, none⟩) hlt).trans r0, (hbq.cell (p := ⟨b3, 1, none⟩) hlt).trans r1, (hbq.cell (p := ⟨b3, 2, none⟩) hlt).trans r2, (hbq.cell (p := ⟨b3, 3, none⟩) hlt).trans r3, (hbq.cell (p := ⟨b3, 4, none⟩) hlt).trans r4, (hbq.cell (p := ⟨b3, 5, none⟩) hlt).trans r5, (hbq.cell (p := ⟨b3, 6, none⟩) hlt).trans r6, (hbq.cell (p := ⟨b3, 7, none⟩) hlt).trans r7⟩ | go_keep) (first | (go_at_call 14; refine (pacenew_any tr wt _).mono ?_; rintro r w6 ⟨rfl, hbq⟩))
    have hb6 : Below w.heap.size w w6 := HB5.out.drew.trans (hbq.mono HB5.out.size)
    have HG := Lib.hid (heap_alloc_new w6 (.cells (coA (.slice y0 m0 k0) (.slice y1 m1 k1) (.slice y2 m2 k2) ct fe ag li cn tr wt 0 0 false 0 0 0) 62))
    have HB6 := Lib.hid (hb6.alloc hb6.size (.cells (coA (.slice y0 m0 k0) (.slice y1 m1 k1) (.slice y2 m2 k2) ct fe ag li cn tr wt 0 0 false 0 0 0) 62))
    have HS6 := Lib.hid hb6.size
    clear hbq hb6 r0 r1 r2 r3 r4 r5 r6 r7
    go_wp2_with fail
    go_ret
    exact ⟨w6.heap.size, .slice y0 m0 k0, .slice y1 m1 k1, .slice y2 m2 k2, rfl, HG.out, HS6.out, HB6.out⟩
end Go.Proofs.YtmpcbfjcmnjlnaaGreatDoor
