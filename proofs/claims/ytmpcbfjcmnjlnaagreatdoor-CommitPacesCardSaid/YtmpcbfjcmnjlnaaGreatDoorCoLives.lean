/- Layer 18's fixed fact, walked. -/
import Derived.Test.YtmpcbfjcmnjlnaaGreatDoorCoNew
namespace Go.Proofs.YtmpcbfjcmnjlnaaGreatDoor
open Go.RowKit
set_option linter.unusedVariables false

set_option maxRecDepth 100000 in
set_option maxHeartbeats 2000000 in
theorem lives18_any (w : World) :
    Calls Tryz.prog 4 #[] w fun e w' => e = .returned (.bool true) ∧ Below w.heap.size w w' := by
  have HN := Lib.hid (conew_yes (w := w) (ct := 0) (fe := 0) (ag := 1) (li := 1) (cn := 1) (tr := 2) (wt := 1) (CellsAt.empty w none 0 9 (by omega) (fun _ => rfl)) (CellsAt.empty w none 0 1 (by omega) (fun _ => rfl)) (CellsAt.empty w none 0 2 (by omega) (fun _ => rfl)) (by omega) (by decide))
  go_enter Tryz.func4, Tryz.ntmps4
  go_wp2_with fail
  refine HN.out.mono ?_
  rintro e w2 ⟨B, e0, e1, e2, rfl, hg, hB, hb2⟩
  have HNX := Lib.hid (conext_yes (now := 0) hg (Int.le_refl 0))
  have HB2 := Lib.hid hb2
  have HBB := Lib.hid hB
  clear hg hB hb2
  go_wp2_with fail
  refine HNX.out.mono ?_
  rintro e w3 ⟨rfl, hg3, ht3⟩
  have hb3 := ht3.old HB2.out HBB.out HB2.out.size
  have hlt := (Array.getElem?_eq_some_iff.1 hg3).1
  have hal : Below w3.heap.size w3 (w3.alloc (.cells #[.int .i64 3, .string { data := #[109, 97, 110, 105, 102, 101, 115, 116] }, .slice none 0 0, .int .i64 0, .int .i64 0, .int .i64 0, .int .i64 0] 35)) := (Below.refl _ _).alloc (Nat.le_refl _) _
  have hgc : (w3.alloc (.cells #[.int .i64 3, .string { data := #[109, 97, 110, 105, 102, 101, 115, 116] }, .slice none 0 0, .int .i64 0, .int .i64 0, .int .i64 0, .int .i64 0] 35)).heap[w3.heap.size]? = some (.cells #[.int .i64 3, .string { data := #[109, 97, 110, 105, 102, 101, 115, 116] }, .slice none 0 0, .int .i64 0, .int .i64 0, .int .i64 0, .int .i64 0] 35 (0, 0)) := heap_alloc_new w3 _
  have HGC := Lib.hid hgc
  have HLT := Lib.hid (Array.getElem?_eq_some_iff.1 hgc).1
  have HST := Lib.hid (costate_any ((hal.block B hlt).trans hg3))
  have HB3 := Lib.hid (hb3.alloc hb3.size (.cells #[.int .i64 3, .string { data := #[109, 97, 110, 105, 102, 101, 115, 116] }, .slice none 0 0, .int .i64 0, .int .i64 0, .int .i64 0, .int .i64 0] 35))
  clear hg3 ht3 hb3 hlt hal hgc
  go_wp2_with fail
  refine HST.out.mono ?_
  rintro e w4 ⟨rfl, hb4⟩
  have hg4 := (hb4.block _ HLT.out).trans HGC.out
  have q0 := cell_blk hg4 (i := 0) (u := .int .i64 3) rfl
  have q1 := cell_blk hg4 (i := 1) (u := .string { data := #[109, 97, 110, 105, 102, 101, 115, 116] }) rfl
  have HB4 := Lib.hid (HB3.out.trans (hb4.mono HB3.out.size))
  clear hb4 hg4
  go_wp2_with fail
  go_ret
  exact ⟨rfl, HB4.out⟩
end Go.Proofs.YtmpcbfjcmnjlnaaGreatDoor
