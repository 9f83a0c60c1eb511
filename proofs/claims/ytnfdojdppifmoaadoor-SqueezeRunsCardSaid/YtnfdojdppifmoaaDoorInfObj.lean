/- Package inflate: an inflater in memory; room, length, distance, walked. (Written by geninf.py.) -/
import Derived.Test.YtnfdojdppifmoaaDoorInfLaws
import Derived.Test.YtnfdojdppifmoaaDoorPrefMk2
namespace Go.Proofs.YtnfdojdppifmoaaDoor
open Go.RowKit PrefPlain BitsPlain InfPlain
set_option linter.unusedVariables false

/-- an inflater's own block: its reader, what is out, the limit, the codes of kind 1 -/
structure InBlk (w : World) (B R : Nat) (v : Value) (most : Nat) (fl fd : Option Addr) : Prop where
  blk : w.heap[B]? = some (.cells #[.pointer (some ⟨R, 0, none⟩), v, .int .i64 (most : Int), .pointer fl, .pointer fd] 41 (0, 0))
section
variable {w : World} {B R : Nat} {v : Value} {most : Nat} {fl fd : Option Addr}
theorem InBlk.c0 (h : InBlk w B R v most fl fd) : w.cell? ⟨B, 0, none⟩ = some (.pointer (some ⟨R, 0, none⟩)) := by rw [cell_of_row w B 0 _ _ (0, 0) h.blk]; rfl
theorem InBlk.c1 (h : InBlk w B R v most fl fd) : w.cell? ⟨B, 1, none⟩ = some v := by rw [cell_of_row w B 1 _ _ (0, 0) h.blk]; rfl
theorem InBlk.c2 (h : InBlk w B R v most fl fd) : w.cell? ⟨B, 2, none⟩ = some (.int .i64 (most : Int)) := by rw [cell_of_row w B 2 _ _ (0, 0) h.blk]; rfl
theorem InBlk.c3 (h : InBlk w B R v most fl fd) : w.cell? ⟨B, 3, none⟩ = some (.pointer fl) := by rw [cell_of_row w B 3 _ _ (0, 0) h.blk]; rfl
theorem InBlk.c4 (h : InBlk w B R v most fl fd) : w.cell? ⟨B, 4, none⟩ = some (.pointer fd) := by rw [cell_of_row w B 4 _ _ (0, 0) h.blk]; rfl
theorem InBlk.f (h : InBlk w B R v most fl fd) (j : Nat) : w.frozen? ⟨B, j, none⟩ = false := frozen_of_row w B j _ _ h.blk
theorem InBlk.lt (h : InBlk w B R v most fl fd) : B < w.heap.size := (Array.getElem?_eq_some_iff.1 h.blk).1
theorem InBlk.other {w' : World} (h : InBlk w B R v most fl fd) (he : w'.heap[B]? = w.heap[B]?) : InBlk w' B R v most fl fd := ⟨he.trans h.blk⟩
end

set_option maxHeartbeats 1000000 in
theorem room_any {w : World} {B R : Nat} {most n c : Nat} {a : Option Addr} {fl fd : Option Addr} (h : InBlk w B R (.slice a n c) most fl fd) (hn : n ≤ most) (hm : most ≤ 65536) (k : Nat) (hk : k ≤ 4294967296) :
    Calls Tryd.prog 33 #[.pointer (some ⟨B, 0, none⟩), .int .i64 (k : Int)] w fun e w' => e = .returned (.bool (decide (n + k ≤ most))) ∧ ∃ q, w' = w.drewN q := by
  have c1 := h.c1
  have c2 := h.c2
  have e1 : IntKind.i64.wrap ((most : Int) - (n : Int)) = (most : Int) - (n : Int) := IntWalk.i64_in _ (by omega)
  have hd : decide ((k : Int) ≤ (most : Int) - (n : Int)) = decide (n + k ≤ most) := by
    rw [Bool.eq_iff_iff, decide_eq_true_eq, decide_eq_true_eq]; omega
  have HD := Lib.hid hd
  clear h hd
  go_enter Tryd.func33, Tryd.ntmps33
  go_wp2_with fail
  go_quiet (fail)
  go_wp2_with fail
  go_ret
  exact ⟨by rw [← HD.out]; rfl, _, rfl⟩
theorem lt_29 (s : Nat) (h : s < 29) : s = 0 ∨ s = 1 ∨ s = 2 ∨ s = 3 ∨ s = 4 ∨ s = 5 ∨ s = 6 ∨ s = 7 ∨ s = 8 ∨ s = 9 ∨ s = 10 ∨ s = 11 ∨ s = 12 ∨ s = 13 ∨ s = 14 ∨ s = 15 ∨ s = 16 ∨ s = 17 ∨ s = 18 ∨ s = 19 ∨ s = 20 ∨ s = 21 ∨ s = 22 ∨ s = 23 ∨ s = 24 ∨ s = 25 ∨ s = 26 ∨ s = 27 ∨ s = 28 := by omega

set_option maxHeartbeats 4000000 in
theorem length_any (s : Nat) (hs : s < 29) (w : World) :
    Calls Tryd.prog 47 #[.int .i64 (s : Int)] w fun e w' => e = .returned (.tuple #[.int .i64 (((lenOf s).1 : Nat) : Int), .int .i64 (((lenOf s).2 : Nat) : Int)]) ∧ w = w' := by
  rcases lt_29 s hs with rfl | rfl | rfl | rfl | rfl | rfl | rfl | rfl | rfl | rfl | rfl | rfl | rfl | rfl | rfl | rfl | rfl | rfl | rfl | rfl | rfl | rfl | rfl | rfl | rfl | rfl | rfl | rfl | rfl
  all_goals
    go_enter Tryd.func47, Tryd.ntmps47
    go_wp2_with fail
    go_ret2
    exact ⟨rfl, rfl⟩
theorem lt_30 (s : Nat) (h : s < 30) : s = 0 ∨ s = 1 ∨ s = 2 ∨ s = 3 ∨ s = 4 ∨ s = 5 ∨ s = 6 ∨ s = 7 ∨ s = 8 ∨ s = 9 ∨ s = 10 ∨ s = 11 ∨ s = 12 ∨ s = 13 ∨ s = 14 ∨ s = 15 ∨ s = 16 ∨ s = 17 ∨ s = 18 ∨ s = 19 ∨ s = 20 ∨ s = 21 ∨ s = 22 ∨ s = 23 ∨ s = 24 ∨ s = 25 ∨ s = 26 ∨ s = 27 ∨ s = 28 ∨ s = 29 := by omega

set_option maxHeartbeats 4000000 in
theorem distance_any (s : Nat) (hs : s < 30) (w : World) :
    Calls Tryd.prog 48 #[.int .i64 (s : Int)] w fun e w' => e = .returned (.tuple #[.int .i64 (((disOf s).1 : Nat) : Int), .int .i64 (((disOf s).2 : Nat) : Int)]) ∧ w = w' := by
  rcases lt_30 s hs with rfl | rfl | rfl | rfl | rfl | rfl | rfl | rfl | rfl | rfl | rfl | rfl | rfl | rfl | rfl | rfl | rfl | rfl | rfl | rfl | rfl | rfl | rfl | rfl | rfl | rfl | rfl | rfl | rfl | rfl
  all_goals
    go_enter Tryd.func48, Tryd.ntmps48
    go_wp2_with fail
    go_ret2
    exact ⟨rfl, rfl⟩
end Go.Proofs.YtnfdojdppifmoaaDoor
