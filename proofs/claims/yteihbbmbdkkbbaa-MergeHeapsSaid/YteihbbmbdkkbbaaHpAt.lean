/- merge.Heap[int] in memory (HpAt); before and swap said of it. -/
import Derived.Test.YteihbbmbdkkbbaaHpSwap
import Derived.Test.YteihbbmbdkkbbaaHpCnt
import Derived.Test.YteihbbmbdkkbbaaHpInts
namespace Go.Proofs.Yteihbbmbdkkbbaa
open Go.ChangeShapes Go.WideShapes Go.Deep Go.RowKit Hp
set_option linter.unusedVariables false

structure HpAt (w : World) (p g c n : Nat) (z : Nat → Int) : Prop where
  hd : w.heap[p]? = some (.cells #[.func (.func 10) #[] #[], .slice (some ⟨g, 0, none⟩) n c] 64 (0, 0))
  bk : ∃ cur, w.heap[g]? = some (.cells cur 3 (0, 0)) ∧ cur.size = c ∧ ∀ k, k < n → cur[k]? = some (.int .i64 (z k))
  nc : n ≤ c
  ne : g ≠ p
theorem HpAt.kept {w w' : World} {p g c n : Nat} {z : Nat → Int} (h : HpAt w p g c n z) (hb : Below w.heap.size w w') : HpAt w' p g c n z := by
  obtain ⟨cur, h1, h2, h3⟩ := h.bk
  exact ⟨(hb.block p (Array.getElem?_eq_some_iff.1 h.hd).1).trans h.hd, ⟨cur, (hb.block g (Array.getElem?_eq_some_iff.1 h1).1).trans h1, h2, h3⟩, h.nc, h.ne⟩
theorem before_at {w : World} {p g c n : Nat} {z : Nat → Int} (h : HpAt w p g c n z) {i k : Nat} (hi : i < n) (hk : k < n) :
    Calls Try.prog 29 #[.pointer (some ⟨p, 0, none⟩), .int .i64 (i : Int), .int .i64 (k : Int)] w fun e w' => e = .returned (.bool (decide (z i < z k))) ∧ HpAt w' p g c n z ∧ Below w.heap.size w w' := by
  obtain ⟨cur, h1, h2, h3⟩ := h.bk
  have ci : w.cell? ⟨g, 0 + i, none⟩ = some (.int .i64 (z i)) := by rw [Nat.zero_add]; exact cell_blk h1 (h3 i hi)
  have ck : w.cell? ⟨g, 0 + k, none⟩ = some (.int .i64 (z k)) := by rw [Nat.zero_add]; exact cell_blk h1 (h3 k hk)
  exact (before_any p g 0 n c (z i) (z k) i k w (cell_blk h.hd rfl) (cell_blk h.hd rfl) hi hk (Array.getElem?_eq_some_iff.1 h.hd).1 (Array.getElem?_eq_some_iff.1 h1).1 ci ck).mono fun e w' ⟨he, hb⟩ => ⟨he, h.kept hb, hb⟩
theorem swap_at {w : World} {p g c n : Nat} {z : Nat → Int} (h : HpAt w p g c n z) {i k : Nat} (hi : i < n) (hk : k < n) :
    Calls Try.prog 27 #[.pointer (some ⟨p, 0, none⟩), .int .i64 (i : Int), .int .i64 (k : Int)] w fun e w' => e = .returned (.tuple #[]) ∧ HpAt w' p g c n (sw z i k) ∧ w.grownBy w' (some g) := by
  obtain ⟨cur, h1, h2, h3⟩ := h.bk
  have ci := h3 i hi
  have ck := h3 k hk
  refine (swap_any p g 0 n c (z i) (z k) i k w (cur := cur) (cell_blk h.hd rfl) hi hk h1 (by rw [Nat.zero_add]; exact ci) (by rw [Nat.zero_add]; exact ck)).mono ?_
  rintro e w' ⟨he, hw⟩
  rw [Nat.zero_add, Nat.zero_add] at hw
  have hg0 : w.drew.heap[g]? = some (.cells cur 3 (0, 0)) := h1
  have hg1 := heap_setCell_same w.drew g i cur 3 (.int .i64 (z k)) hg0
  have hg2 := heap_setCell_same _ g k _ 3 (.int .i64 (z i)) hg1
  have hp0 : w.drew.heap[p]? = _ := h.hd
  have hp2 : w'.heap[p]? = w.drew.heap[p]? := by
    rw [hw, heap_setCell_other _ ⟨g, k, none⟩ p _ (fun e => h.ne (by simpa using e.symm)), heap_setCell_other _ ⟨g, i, none⟩ p _ (fun e => h.ne (by simpa using e.symm))]
  refine ⟨he, ⟨hp2.trans hp0, ⟨_, by rw [hw]; exact hg2, by rw [Array.size_setIfInBounds, Array.size_setIfInBounds]; exact h2, fun j hj => ?_⟩, h.nc, h.ne⟩, by rw [hw]; exact grown_over (grown_over (r2 := some g) (r := some g) (b := w.drew) ⟨rfl, rfl, rfl, Nat.le_refl _, fun _ _ _ => rfl⟩ (grown_set w.drew g i _) (fun _ e => .inr e)) (grown_set _ g k _) (fun _ e => .inr e)⟩
  have hic : i < cur.size := (Array.getElem?_eq_some_iff.1 ci).1
  have hkc : k < cur.size := (Array.getElem?_eq_some_iff.1 ck).1
  unfold sw
  by_cases e1 : j = k
  · subst e1
    rw [if_pos rfl, Array.getElem?_setIfInBounds_self_of_lt (by rw [Array.size_setIfInBounds]; exact hkc)]
  · rw [if_neg e1, Array.getElem?_setIfInBounds_ne (fun e => e1 e.symm)]
    by_cases e2 : j = i
    · subst e2
      rw [if_pos rfl, Array.getElem?_setIfInBounds_self_of_lt hic]
    · rw [if_neg e2, Array.getElem?_setIfInBounds_ne (fun e => e2 e.symm)]
      exact h3 j hj
end Go.Proofs.Yteihbbmbdkkbbaa
