/- An upload's Next and New; layer 17's fixed fact: walked. -/
import Derived.Test.YtpgpgpbckjginaaUp
import Derived.Laws.Tables
namespace Go.Proofs.Ytpgpgpbckjginaa
open Go.RowKit
set_option linter.unusedVariables false

set_option maxRecDepth 100000 in
set_option maxHeartbeats 1000000 in
theorem next_yes {w : World} {B : Nat} {ky : ByteArray} {da : Option Addr} {dn dc : Nat} {sz pt tr wt rd now f state : Int} (g : w.heap[B]? = some (.cells (upA ky da dn dc sz pt tr wt f rd false 0 state) 61 (0, 0))) (h : rd ≤ now) :
    Calls Try.prog 16 #[.pointer (some ⟨B, 0, none⟩), .int .i64 now] w fun e w' => e = .returned (.tuple #[.agg #[.int .i64 7, .string ky, .slice none 0 0, .int .i64 0, .int .i64 0, .int .i64 0, .int .i64 0], .bool true]) ∧ w'.heap[B]? = some (.cells (upA ky da dn dc sz pt tr wt f rd true 0 state) 61 (0, 0)) ∧ Turns B w w' := by
  obtain ⟨w1, hw1⟩ : ∃ w1, w1 = w.alloc (.cells #[.int .i64 0, .string { data := #[] }, .slice none 0 0, .int .i64 0, .int .i64 0, .int .i64 0, .int .i64 0] 48) := ⟨_, rfl⟩
  have hlt := (Array.getElem?_eq_some_iff.1 g).1
  have hb1 : Below w.heap.size w w1 := by rw [hw1]; exact (Below.refl _ _).alloc (Nat.le_refl _) _
  have g1 := (hb1.block B hlt).trans g
  have hlt1 : w.heap.size < w1.heap.size := by rw [hw1]; exact (Array.getElem?_eq_some_iff.1 (heap_alloc_new w _)).1
  have gr : w1.heap[w.heap.size]? = some (.cells #[.int .i64 0, .string { data := #[] }, .slice none 0 0, .int .i64 0, .int .i64 0, .int .i64 0, .int .i64 0] 48 (0, 0)) := by rw [hw1]; exact heap_alloc_new w _
  have hT : Turns B w w1 := (Turns.refl B w).below hb1
  have c10 := cell_blk g1 (i := 10) (u := .int .i64 0) rfl
  have HTL := Lib.hid (tell_yes (o := 5) (now := now) g1 rfl rfl h)
  have HR := Lib.hid (fun (w2 : World) (h : Turns B w1 w2) => (h.block w.heap.size hlt1 (by omega)).trans gr)
  have HT := Lib.hid hT
  have HNE := Lib.hid (show B ≠ w.heap.size by omega)
  rw [hw1] at HTL HT HR c10
  have HTL := Lib.hid HTL.out
  have HR := Lib.hid HR.out
  clear g g1 hb1 hlt hlt1 gr hT
  subst hw1
  go_enter Try.func16, Try.ntmps16
  go_wp2_with fail
  refine HTL.out.mono ?_
  rintro e w2 ⟨rfl, hg2, ht2⟩
  have hg3 : w2.heap[B]? = some (.cells (upA ky da dn dc sz pt tr wt f rd true 0 state) 61 (0, 0)) := hg2
  have k0 := cell_blk hg3 (i := 0) (u := .string ky) rfl
  have k10 := cell_blk hg3 (i := 10) (u := .int .i64 0) rfl
  have gr2 := HR.out w2 ht2
  have HG2 := Lib.hid gr2
  have HGB := Lib.hid ((setRow_other w2 w.heap.size B #[.int .i64 7, .string ky, .slice none 0 0, .int .i64 0, .int .i64 0, .int .i64 0, .int .i64 0] HNE.out).trans hg3)
  have HTB := Lib.hid ((HT.out.trans ht2).setRow_new (Nat.le_refl _) #[.int .i64 7, .string ky, .slice none 0 0, .int .i64 0, .int .i64 0, .int .i64 0, .int .i64 0])
  have e0 := fun j => cell_setRow_same w2 w.heap.size j _ #[.int .i64 7, .string ky, .slice none 0 0, .int .i64 0, .int .i64 0, .int .i64 0, .int .i64 0] _ _ gr2
  have q0 := e0 0
  have q1 := e0 1
  have q2 := e0 2
  have q3 := e0 3
  have q4 := e0 4
  have q5 := e0 5
  have q6 := e0 6
  clear e0 hg2 hg3 ht2 gr2
  go_wp2_with (refine wpList_store_row rfl 48 (.tmp 4) (.tmp 36) rfl w.heap.size #[.int .i64 7, .string ky, .slice none 0 0, .int .i64 0, .int .i64 0, .int .i64 0, .int .i64 0] rfl rfl 48 _ HG2.out (by kernel_rfl) (by rfl) (by simp [Value.oneCell']) ?_)
  exact bodyPost_ret (v := .tuple #[.agg #[.int .i64 7, .string ky, .slice none 0 0, .int .i64 0, .int .i64 0, .int .i64 0, .int .i64 0], .bool true]) (by simp [results, Try.results16, go_sem, q0, q1, q2, q3, q4, q5, q6]) rfl ⟨rfl, HGB.out, HTB.out⟩

set_option maxRecDepth 100000 in
set_option maxHeartbeats 1000000 in
theorem next_over {w : World} {B : Nat} {ky : ByteArray} {da : Option Addr} {dn dc : Nat} {sz pt tr wt rd now f state : Int} (g : w.heap[B]? = some (.cells (upA ky da dn dc sz pt tr wt f rd false 5 state) 61 (0, 0))) :
    Calls Try.prog 16 #[.pointer (some ⟨B, 0, none⟩), .int .i64 now] w fun e w' => e = .returned (.tuple #[.agg #[.int .i64 0, .string { data := #[] }, .slice none 0 0, .int .i64 0, .int .i64 0, .int .i64 0, .int .i64 0], .bool false]) ∧ w'.heap[B]? = some (.cells (upA ky da dn dc sz pt tr wt f rd false 5 state) 61 (0, 0)) ∧ Turns B w w' := by
  obtain ⟨w1, hw1⟩ : ∃ w1, w1 = w.alloc (.cells #[.int .i64 0, .string { data := #[] }, .slice none 0 0, .int .i64 0, .int .i64 0, .int .i64 0, .int .i64 0] 48) := ⟨_, rfl⟩
  have hlt := (Array.getElem?_eq_some_iff.1 g).1
  have hb1 : Below w.heap.size w w1 := by rw [hw1]; exact (Below.refl _ _).alloc (Nat.le_refl _) _
  have g1 := (hb1.block B hlt).trans g
  have hlt1 : w.heap.size < w1.heap.size := by rw [hw1]; exact (Array.getElem?_eq_some_iff.1 (heap_alloc_new w _)).1
  have gr : w1.heap[w.heap.size]? = some (.cells #[.int .i64 0, .string { data := #[] }, .slice none 0 0, .int .i64 0, .int .i64 0, .int .i64 0, .int .i64 0] 48 (0, 0)) := by rw [hw1]; exact heap_alloc_new w _
  have hT : Turns B w w1 := (Turns.refl B w).below hb1
  have c10 := cell_blk g1 (i := 10) (u := .int .i64 5) rfl
  have HG2 := Lib.hid gr
  have HGB := Lib.hid ((setRow_other w1 w.heap.size B #[.int .i64 0, .string { data := #[] }, .slice none 0 0, .int .i64 0, .int .i64 0, .int .i64 0, .int .i64 0] (by omega)).trans g1)
  have HTB := Lib.hid (hT.setRow_new (Nat.le_refl _) #[.int .i64 0, .string { data := #[] }, .slice none 0 0, .int .i64 0, .int .i64 0, .int .i64 0, .int .i64 0])
  have e0 := fun j => cell_setRow_same w1 w.heap.size j _ #[.int .i64 0, .string { data := #[] }, .slice none 0 0, .int .i64 0, .int .i64 0, .int .i64 0, .int .i64 0] _ _ gr
  have q0 := e0 0
  have q1 := e0 1
  have q2 := e0 2
  have q3 := e0 3
  have q4 := e0 4
  have q5 := e0 5
  have q6 := e0 6
  rw [hw1] at HG2 HGB HTB c10 q0 q1 q2 q3 q4 q5 q6
  clear e0 g g1 hb1 hlt hlt1 gr hT
  subst hw1
  go_enter Try.func16, Try.ntmps16
  go_wp2_with (refine wpList_store_row rfl 48 (.tmp 4) (.tmp 25) rfl w.heap.size #[.int .i64 0, .string { data := #[] }, .slice none 0 0, .int .i64 0, .int .i64 0, .int .i64 0, .int .i64 0] rfl rfl 48 _ HG2.out (by kernel_rfl) (by rfl) (by simp [Value.oneCell']) ?_)
  exact bodyPost_ret (v := .tuple #[.agg #[.int .i64 0, .string { data := #[] }, .slice none 0 0, .int .i64 0, .int .i64 0, .int .i64 0, .int .i64 0], .bool false]) (by simp [results, Try.results16, go_sem, q0, q1, q2, q3, q4, q5, q6]) rfl ⟨rfl, HGB.out, HTB.out⟩

set_option maxRecDepth 100000 in
set_option maxHeartbeats 1000000 in
theorem next_wait {w : World} {B : Nat} {ky : ByteArray} {da : Option Addr} {dn dc : Nat} {sz pt tr wt rd now f state : Int} (g : w.heap[B]? = some (.cells (upA ky da dn dc sz pt tr wt f rd false 0 state) 61 (0, 0))) (h : now < rd) :
    Calls Try.prog 16 #[.pointer (some ⟨B, 0, none⟩), .int .i64 now] w fun e w' => e = .returned (.tuple #[.agg #[.int .i64 0, .string { data := #[] }, .slice none 0 0, .int .i64 0, .int .i64 0, .int .i64 0, .int .i64 0], .bool false]) ∧ w'.heap[B]? = some (.cells (upA ky da dn dc sz pt tr wt f rd false 0 state) 61 (0, 0)) ∧ Turns B w w' := by
  obtain ⟨w1, hw1⟩ : ∃ w1, w1 = w.alloc (.cells #[.int .i64 0, .string { data := #[] }, .slice none 0 0, .int .i64 0, .int .i64 0, .int .i64 0, .int .i64 0] 48) := ⟨_, rfl⟩
  have hlt := (Array.getElem?_eq_some_iff.1 g).1
  have hb1 : Below w.heap.size w w1 := by rw [hw1]; exact (Below.refl _ _).alloc (Nat.le_refl _) _
  have g1 := (hb1.block B hlt).trans g
  have hlt1 : w.heap.size < w1.heap.size := by rw [hw1]; exact (Array.getElem?_eq_some_iff.1 (heap_alloc_new w _)).1
  have gr : w1.heap[w.heap.size]? = some (.cells #[.int .i64 0, .string { data := #[] }, .slice none 0 0, .int .i64 0, .int .i64 0, .int .i64 0, .int .i64 0] 48 (0, 0)) := by rw [hw1]; exact heap_alloc_new w _
  have hT : Turns B w w1 := (Turns.refl B w).below hb1
  have c10 := cell_blk g1 (i := 10) (u := .int .i64 0) rfl
  have HTL := Lib.hid (tell_no (o := 5) (now := now) g1 rfl rfl h)
  have HG2 := Lib.hid gr
  have HGB := Lib.hid ((setRow_other w1 w.heap.size B #[.int .i64 0, .string { data := #[] }, .slice none 0 0, .int .i64 0, .int .i64 0, .int .i64 0, .int .i64 0] (by omega)).trans g1)
  have HTB := Lib.hid (hT.setRow_new (Nat.le_refl _) #[.int .i64 0, .string { data := #[] }, .slice none 0 0, .int .i64 0, .int .i64 0, .int .i64 0, .int .i64 0])
  have e0 := fun j => cell_setRow_same w1 w.heap.size j _ #[.int .i64 0, .string { data := #[] }, .slice none 0 0, .int .i64 0, .int .i64 0, .int .i64 0, .int .i64 0] _ _ gr
  have q0 := e0 0
  have q1 := e0 1
  have q2 := e0 2
  have q3 := e0 3
  have q4 := e0 4
  have q5 := e0 5
  have q6 := e0 6
  rw [hw1] at HG2 HGB HTB c10 q0 q1 q2 q3 q4 q5 q6 HTL
  clear e0 g g1 hb1 hlt hlt1 gr hT
  subst hw1
  go_enter Try.func16, Try.ntmps16
  go_wp2_with fail
  refine HTL.out.mono ?_
  rintro e w2 ⟨rfl, rfl⟩
  go_wp2_with (refine wpList_store_row rfl 48 (.tmp 4) (.tmp 25) rfl w.heap.size #[.int .i64 0, .string { data := #[] }, .slice none 0 0, .int .i64 0, .int .i64 0, .int .i64 0, .int .i64 0] rfl rfl 48 _ HG2.out (by kernel_rfl) (by rfl) (by simp [Value.oneCell']) ?_)
  exact bodyPost_ret (v := .tuple #[.agg #[.int .i64 0, .string { data := #[] }, .slice none 0 0, .int .i64 0, .int .i64 0, .int .i64 0, .int .i64 0], .bool false]) (by simp [results, Try.results16, go_sem, q0, q1, q2, q3, q4, q5, q6]) rfl ⟨rfl, HGB.out, HTB.out⟩
end Go.Proofs.Ytpgpgpbckjginaa
