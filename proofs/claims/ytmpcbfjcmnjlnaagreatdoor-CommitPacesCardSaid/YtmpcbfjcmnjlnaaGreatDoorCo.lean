/- A commit whose replies never come: its functions, walked. Written by genco2.py. -/
import Derived.Test.YtmpcbfjcmnjlnaaGreatDoorPace
import Derived.Laws.Tables
namespace Go.Proofs.YtmpcbfjcmnjlnaaGreatDoor
open Go.RowKit
set_option linter.unusedVariables false

def coA (e0 e1 e2 : Value) (ct fe ag li cn tr wt f rd : Int) (told : Bool) (st state err : Int) : Array Value :=
  #[e0, e1, e2, .int .i64 ct, .int .i64 fe, .int .i64 ag, .int .i64 li, .int .i64 cn, .int .i64 tr, .int .i64 wt, .int .i64 f, .int .i64 rd, .bool told, .int .i64 st,
    .int .i64 0, .int .i64 0, .int .i64 0, .slice none 0 0, .slice none 0 0, .slice none 0 0, .int .i64 0, .int .i64 0, .int .i64 0, .int .i64 0, .slice none 0 0, .slice none 0 0, .slice none 0 0, .int .i64 state, .int .i64 err]
theorem Turns.setRow_new {B : Nat} {a w : World} (h : Turns B a w) {g : Nat} (hg : a.heap.size ≤ g) (cs : Array Value) : Turns B a (w.setRow g cs) :=
  ⟨h.os, h.tape, h.output, by rw [setRow_size]; exact h.size, fun k hk hne => (setRow_other w g k cs (by omega)).trans (h.block k hk hne)⟩

set_option maxRecDepth 100000 in
set_option maxHeartbeats 1000000 in
theorem costate_any {w : World} {B : Nat} {e0 e1 e2 : Value} {ct fe ag li cn tr wt rd f st state err : Int} {told : Bool} (g : w.heap[B]? = some (.cells (coA e0 e1 e2 ct fe ag li cn tr wt f rd told st state err) 62 (0, 0))) :
    Calls Tryz.prog 9 #[.pointer (some ⟨B, 0, none⟩)] w fun e w' => e = .returned (.tuple #[.int .i64 state, .int .i64 err]) ∧ Below w.heap.size w w' := by
  have c27 := cell_blk g (i := 27) (u := .int .i64 state) rfl
  have c28 := cell_blk g (i := 28) (u := .int .i64 err) rfl
  clear g
  go_enter Tryz.func9, Tryz.ntmps9
  go_wp2_with fail
  go_quiet (fail)
  rename Nat => nq
  go_wp2_with fail
  go_ret2
  exact ⟨rfl, ⟨rfl, rfl, rfl, Nat.le_refl _, fun _ _ => rfl⟩⟩

set_option maxRecDepth 100000 in
set_option maxHeartbeats 1000000 in
theorem coend_any {w : World} {B : Nat} {e0 e1 e2 : Value} {ct fe ag li cn tr wt rd f st state err : Int} {told : Bool} (s er : Int) (g : w.heap[B]? = some (.cells (coA e0 e1 e2 ct fe ag li cn tr wt f rd told st state err) 62 (0, 0))) :
    Calls Tryz.prog 33 #[.pointer (some ⟨B, 0, none⟩), .int .i64 s, .int .i64 er] w fun e w' => e = .returned (.tuple #[]) ∧ w'.heap[B]? = some (.cells (coA e0 e1 e2 ct fe ag li cn tr wt f rd told 2 s er) 62 (0, 0)) ∧ Turns B w w' := by
  have c27 := cell_blk g (i := 27) (u := .int .i64 state) rfl
  have f27 := fro_blk g 27
  have g1 := heap_set g 27 (.int .i64 s)
  have c28 := cell_blk g1 (i := 28) (u := .int .i64 err) rfl
  have f28 := fro_blk g1 28
  have g2 := heap_set g1 28 (.int .i64 er)
  have c13 := cell_blk g2 (i := 13) (u := .int .i64 st) rfl
  have f13 := fro_blk g2 13
  have HG := Lib.hid (heap_set g2 13 (.int .i64 2))
  have HT := Lib.hid ((((Turns.refl B w).set 27 (.int .i64 s)).set 28 (.int .i64 er)).set 13 (.int .i64 2))
  clear g g1 g2
  go_enter Tryz.func33, Tryz.ntmps33
  go_wp2_with fail
  first | go_end0 | refine bodyPost_ret (results_none rfl _ _ _) rfl ?_
  exact ⟨rfl, HG.out, HT.out⟩

set_option maxRecDepth 100000 in
set_option maxHeartbeats 1000000 in
theorem cofail_more {w : World} {B : Nat} {e0 e1 e2 : Value} {ct fe ag li cn tr wt rd now : Int} {f : Nat} (g : w.heap[B]? = some (.cells (coA e0 e1 e2 ct fe ag li cn tr wt (f : Int) rd false 0 0 0) 62 (0, 0))) (hf : f ≤ 10) (hw : 0 ≤ wt ∧ wt ≤ 1000) (hn : 0 ≤ now ∧ now ≤ 10000000) (h : (f : Int) + 1 < tr) :
    Calls Tryz.prog 19 #[.pointer (some ⟨B, 0, none⟩), .int .i64 now] w fun e w' => e = .returned (.tuple #[]) ∧ w'.heap[B]? = some (.cells (coA e0 e1 e2 ct fe ag li cn tr wt ((f : Int) + 1) (now + wt * 2 ^ f) false 0 0 0) 62 (0, 0)) ∧ Turns B w w' := by
  have c13 := cell_blk g (i := 13) (u := .int .i64 0) rfl
  have f13 := fro_blk g 13
  have g1 : (w.setCell ⟨B, 13, none⟩ (.int .i64 0)).heap[B]? = some (.cells (coA e0 e1 e2 ct fe ag li cn tr wt (f : Int) rd false 0 0 0) 62 (0, 0)) := heap_set g 13 (.int .i64 0)
  have HF := Lib.hid (fail_more (o := 8) (now := now) g1 rfl rfl rfl rfl hf hw hn h)
  have HT := Lib.hid ((Turns.refl B w).set 13 (.int .i64 0))
  clear g g1
  go_enter Tryz.func19, Tryz.ntmps19
  go_wp2_with fail
  refine HF.out.mono ?_
  rintro e w2 ⟨rfl, hg2, ht2⟩
  have HG := Lib.hid hg2
  have HT2 := Lib.hid (HT.out.trans ht2)
  clear hg2 ht2
  go_wp2_with fail
  first | go_end0 | refine bodyPost_ret (results_none rfl _ _ _) rfl ?_
  exact ⟨rfl, HG.out, HT2.out⟩

set_option maxRecDepth 100000 in
set_option maxHeartbeats 1000000 in
theorem cotake_more {w : World} {B : Nat} {e0 e1 e2 : Value} {ct fe ag li cn tr wt rd now : Int} {f : Nat} (g : w.heap[B]? = some (.cells (coA e0 e1 e2 ct fe ag li cn tr wt (f : Int) rd true 0 0 0) 62 (0, 0))) (hf : f ≤ 10) (hw : 0 ≤ wt ∧ wt ≤ 1000) (hn : 0 ≤ now ∧ now ≤ 10000000) (h : (f : Int) + 1 < tr) :
    Calls Tryz.prog 8 #[.pointer (some ⟨B, 0, none⟩), .agg #[.int .i64 10, .slice none 0 0, .int .i64 0, .int .i64 0, .int .i64 0, .slice none 0 0, .bool false], .int .i64 now] w fun e w' => (∃ v, e = .returned v) ∧ w'.heap[B]? = some (.cells (coA e0 e1 e2 ct fe ag li cn tr wt ((f : Int) + 1) (now + wt * 2 ^ f) false 0 0 0) 62 (0, 0)) ∧ Turns B w w' := by
  obtain ⟨w1, hw1⟩ : ∃ w1, w1 = w.alloc (.cells #[.int .i64 10, .slice none 0 0, .int .i64 0, .int .i64 0, .int .i64 0, .slice none 0 0, .bool false] 42) := ⟨_, rfl⟩
  have hlt := (Array.getElem?_eq_some_iff.1 g).1
  have hb1 : Below w.heap.size w w1 := by rw [hw1]; exact (Below.refl _ _).alloc (Nat.le_refl _) _
  have g1 := (hb1.block B hlt).trans g
  have hlt1 : w.heap.size < w1.heap.size := by rw [hw1]; exact (Array.getElem?_eq_some_iff.1 (heap_alloc_new w _)).1
  have gr : w1.heap[w.heap.size]? = some (.cells #[.int .i64 10, .slice none 0 0, .int .i64 0, .int .i64 0, .int .i64 0, .slice none 0 0, .bool false] 42 (0, 0)) := by rw [hw1]; exact heap_alloc_new w _
  have HTK := Lib.hid (taken_yes (o := 8) g1 rfl)
  have HT := Lib.hid ((Turns.refl B w).below hb1)
  have HR := Lib.hid (fun (w2 : World) (h : Turns B w1 w2) => (h.block w.heap.size hlt1 (by omega)).trans gr)
  rw [hw1] at HTK HT HR
  have HTK := Lib.hid HTK.out
  have HR := Lib.hid HR.out
  clear g g1 hb1 hlt hlt1 gr
  subst hw1
  go_enter Tryz.func8, Tryz.ntmps8
  go_wp2_with fail
  refine HTK.out.mono ?_
  rintro e w2 ⟨rfl, hg2, ht2⟩
  have hg3 : w2.heap[B]? = some (.cells (coA e0 e1 e2 ct fe ag li cn tr wt (f : Int) rd false 0 0 0) 62 (0, 0)) := hg2
  have gr2 := HR.out w2 ht2
  have r0 := cell_blk gr2 (i := 0) (u := .int .i64 10) rfl
  have HC := Lib.hid (cofail_more (now := now) hg3 hf hw hn h)
  have HT2 := Lib.hid (HT.out.trans ht2)
  clear hg2 hg3 ht2 gr2
  go_wp2_with fail
  refine (passes_net _).mono ?_
  rintro e w3 ⟨rfl, rfl⟩
  go_wp2_with fail
  refine HC.out.mono ?_
  rintro e w3 ⟨rfl, hg3, ht3⟩
  have HG3 := Lib.hid hg3
  have HT3 := Lib.hid (HT2.out.trans ht3)
  clear hg3 ht3
  go_wp2_with fail
  go_ret
  exact ⟨⟨_, rfl⟩, HG3.out, HT3.out⟩

set_option maxRecDepth 100000 in
set_option maxHeartbeats 1000000 in
theorem cofail_last {w : World} {B : Nat} {e0 e1 e2 : Value} {ct fe ag li cn tr wt rd now : Int} {f : Nat} (g : w.heap[B]? = some (.cells (coA e0 e1 e2 ct fe ag li cn tr wt (f : Int) rd false 0 0 0) 62 (0, 0))) (hf : f ≤ 10) (h : tr ≤ (f : Int) + 1) :
    Calls Tryz.prog 19 #[.pointer (some ⟨B, 0, none⟩), .int .i64 now] w fun e w' => e = .returned (.tuple #[]) ∧ w'.heap[B]? = some (.cells (coA e0 e1 e2 ct fe ag li cn tr wt ((f : Int) + 1) rd false 2 3 15) 62 (0, 0)) ∧ Turns B w w' := by
  have c13 := cell_blk g (i := 13) (u := .int .i64 0) rfl
  have f13 := fro_blk g 13
  have g1 : (w.setCell ⟨B, 13, none⟩ (.int .i64 0)).heap[B]? = some (.cells (coA e0 e1 e2 ct fe ag li cn tr wt (f : Int) rd false 0 0 0) 62 (0, 0)) := heap_set g 13 (.int .i64 0)
  have HF := Lib.hid (fail_last (o := 8) (now := now) g1 rfl rfl (by omega) h)
  have HT := Lib.hid ((Turns.refl B w).set 13 (.int .i64 0))
  clear g g1
  go_enter Tryz.func19, Tryz.ntmps19
  go_wp2_with fail
  refine HF.out.mono ?_
  rintro e w2 ⟨rfl, hg2, ht2⟩
  have hg3 : w2.heap[B]? = some (.cells (coA e0 e1 e2 ct fe ag li cn tr wt ((f : Int) + 1) rd false 0 0 0) 62 (0, 0)) := hg2
  have HE := Lib.hid (coend_any 3 15 hg3)
  have HT2 := Lib.hid (HT.out.trans ht2)
  clear hg2 hg3 ht2
  go_wp2_with fail
  refine HE.out.mono ?_
  rintro e w3 ⟨rfl, hg3, ht3⟩
  have HG3 := Lib.hid hg3
  have HT3 := Lib.hid (HT2.out.trans ht3)
  clear hg3 ht3
  go_wp2_with fail
  first | go_end0 | refine bodyPost_ret (results_none rfl _ _ _) rfl ?_
  exact ⟨rfl, HG3.out, HT3.out⟩

set_option maxRecDepth 100000 in
set_option maxHeartbeats 1000000 in
theorem cotake_last {w : World} {B : Nat} {e0 e1 e2 : Value} {ct fe ag li cn tr wt rd now : Int} {f : Nat} (g : w.heap[B]? = some (.cells (coA e0 e1 e2 ct fe ag li cn tr wt (f : Int) rd true 0 0 0) 62 (0, 0))) (hf : f ≤ 10) (h : tr ≤ (f : Int) + 1) :
    Calls Tryz.prog 8 #[.pointer (some ⟨B, 0, none⟩), .agg #[.int .i64 10, .slice none 0 0, .int .i64 0, .int .i64 0, .int .i64 0, .slice none 0 0, .bool false], .int .i64 now] w fun e w' => (∃ v, e = .returned v) ∧ w'.heap[B]? = some (.cells (coA e0 e1 e2 ct fe ag li cn tr wt ((f : Int) + 1) rd false 2 3 15) 62 (0, 0)) ∧ Turns B w w' := by
  obtain ⟨w1, hw1⟩ : ∃ w1, w1 = w.alloc (.cells #[.int .i64 10, .slice none 0 0, .int .i64 0, .int .i64 0, .int .i64 0, .slice none 0 0, .bool false] 42) := ⟨_, rfl⟩
  have hlt := (Array.getElem?_eq_some_iff.1 g).1
  have hb1 : Below w.heap.size w w1 := by rw [hw1]; exact (Below.refl _ _).alloc (Nat.le_refl _) _
  have g1 := (hb1.block B hlt).trans g
  have hlt1 : w.heap.size < w1.heap.size := by rw [hw1]; exact (Array.getElem?_eq_some_iff.1 (heap_alloc_new w _)).1
  have gr : w1.heap[w.heap.size]? = some (.cells #[.int .i64 10, .slice none 0 0, .int .i64 0, .int .i64 0, .int .i64 0, .slice none 0 0, .bool false] 42 (0, 0)) := by rw [hw1]; exact heap_alloc_new w _
  have HTK := Lib.hid (taken_yes (o := 8) g1 rfl)
  have HT := Lib.hid ((Turns.refl B w).below hb1)
  have HR := Lib.hid (fun (w2 : World) (h : Turns B w1 w2) => (h.block w.heap.size hlt1 (by omega)).trans gr)
  rw [hw1] at HTK HT HR
  have HTK := Lib.hid HTK.out
  have HR := Lib.hid HR.out
  clear g g1 hb1 hlt hlt1 gr
  subst hw1
  go_enter Tryz.func8, Tryz.ntmps8
  go_wp2_with fail
  refine HTK.out.mono ?_
  rintro e w2 ⟨rfl, hg2, ht2⟩
  have hg3 : w2.heap[B]? = some (.cells (coA e0 e1 e2 ct fe ag li cn tr wt (f : Int) rd false 0 0 0) 62 (0, 0)) := hg2
  have gr2 := HR.out w2 ht2
  have r0 := cell_blk gr2 (i := 0) (u := .int .i64 10) rfl
  have HC := Lib.hid (cofail_last (now := now) hg3 hf h)
  have HT2 := Lib.hid (HT.out.trans ht2)
  clear hg2 hg3 ht2 gr2
  go_wp2_with fail
  refine (passes_net _).mono ?_
  rintro e w3 ⟨rfl, rfl⟩
  go_wp2_with fail
  refine HC.out.mono ?_
  rintro e w3 ⟨rfl, hg3, ht3⟩
  have HG3 := Lib.hid hg3
  have HT3 := Lib.hid (HT2.out.trans ht3)
  clear hg3 ht3
  go_wp2_with fail
  go_ret
  exact ⟨⟨_, rfl⟩, HG3.out, HT3.out⟩

set_option maxRecDepth 100000 in
set_option maxHeartbeats 1000000 in
theorem conext_yes {w : World} {B : Nat} {e0 e1 e2 : Value} {ct fe ag li cn tr wt rd now f state err : Int} (g : w.heap[B]? = some (.cells (coA e0 e1 e2 ct fe ag li cn tr wt f rd false 0 state err) 62 (0, 0))) (h : rd ≤ now) :
    Calls Tryz.prog 7 #[.pointer (some ⟨B, 0, none⟩), .int .i64 now] w fun e w' => e = .returned (.tuple #[.agg #[.int .i64 3, .string { data := #[109, 97, 110, 105, 102, 101, 115, 116] }, .slice none 0 0, .int .i64 0, .int .i64 0, .int .i64 0, .int .i64 0], .bool true]) ∧ w'.heap[B]? = some (.cells (coA e0 e1 e2 ct fe ag li cn tr wt f rd true 0 state err) 62 (0, 0)) ∧ Turns B w w' := by
  obtain ⟨w1, hw1⟩ : ∃ w1, w1 = w.alloc (.cells #[.int .i64 0, .string { data := #[] }, .slice none 0 0, .int .i64 0, .int .i64 0, .int .i64 0, .int .i64 0] 35) := ⟨_, rfl⟩
  have hlt := (Array.getElem?_eq_some_iff.1 g).1
  have hb1 : Below w.heap.size w w1 := by rw [hw1]; exact (Below.refl _ _).alloc (Nat.le_refl _) _
  have g1 := (hb1.block B hlt).trans g
  have hlt1 : w.heap.size < w1.heap.size := by rw [hw1]; exact (Array.getElem?_eq_some_iff.1 (heap_alloc_new w _)).1
  have gr : w1.heap[w.heap.size]? = some (.cells #[.int .i64 0, .string { data := #[] }, .slice none 0 0, .int .i64 0, .int .i64 0, .int .i64 0, .int .i64 0] 35 (0, 0)) := by rw [hw1]; exact heap_alloc_new w _
  have hT : Turns B w w1 := (Turns.refl B w).below hb1
  have c13 := cell_blk g1 (i := 13) (u := .int .i64 0) rfl
  have HTL := Lib.hid (tell_yes (o := 8) (now := now) g1 rfl rfl h)
  have HR := Lib.hid (fun (w2 : World) (h : Turns B w1 w2) => (h.block w.heap.size hlt1 (by omega)).trans gr)
  have HT := Lib.hid hT
  have HNE := Lib.hid (show B ≠ w.heap.size by omega)
  rw [hw1] at HTL HT HR c13
  have HTL := Lib.hid HTL.out
  have HR := Lib.hid HR.out
  clear g g1 hb1 hlt hlt1 gr hT
  subst hw1
  go_enter Tryz.func7, Tryz.ntmps7
  go_wp2_with fail
  refine HTL.out.mono ?_
  rintro e w2 ⟨rfl, hg2, ht2⟩
  have hg3 : w2.heap[B]? = some (.cells (coA e0 e1 e2 ct fe ag li cn tr wt f rd true 0 state err) 62 (0, 0)) := hg2
  have k13 := cell_blk hg3 (i := 13) (u := .int .i64 0) rfl
  have gr2 := HR.out w2 ht2
  have HG2 := Lib.hid gr2
  have HGB := Lib.hid ((setRow_other w2 w.heap.size B #[.int .i64 3, .string { data := #[109, 97, 110, 105, 102, 101, 115, 116] }, .slice none 0 0, .int .i64 0, .int .i64 0, .int .i64 0, .int .i64 0] HNE.out).trans hg3)
  have HTB := Lib.hid ((HT.out.trans ht2).setRow_new (Nat.le_refl _) #[.int .i64 3, .string { data := #[109, 97, 110, 105, 102, 101, 115, 116] }, .slice none 0 0, .int .i64 0, .int .i64 0, .int .i64 0, .int .i64 0])
  have e0' := fun j => cell_setRow_same w2 w.heap.size j _ #[.int .i64 3, .string { data := #[109, 97, 110, 105, 102, 101, 115, 116] }, .slice none 0 0, .int .i64 0, .int .i64 0, .int .i64 0, .int .i64 0] _ _ gr2
  have q0 := e0' 0
  have q1 := e0' 1
  have q2 := e0' 2
  have q3 := e0' 3
  have q4 := e0' 4
  have q5 := e0' 5
  have q6 := e0' 6
  clear e0' hg2 hg3 ht2 gr2
  go_wp2_with (refine wpList_store_row rfl 35 (.tmp 4) (.tmp 31) rfl w.heap.size #[.int .i64 3, .string { data := #[109, 97, 110, 105, 102, 101, 115, 116] }, .slice none 0 0, .int .i64 0, .int .i64 0, .int .i64 0, .int .i64 0] rfl rfl 35 _ HG2.out (by kernel_rfl) (by rfl) (by simp [Value.oneCell']) ?_)
  exact bodyPost_ret (v := .tuple #[.agg #[.int .i64 3, .string { data := #[109, 97, 110, 105, 102, 101, 115, 116] }, .slice none 0 0, .int .i64 0, .int .i64 0, .int .i64 0, .int .i64 0], .bool true]) (by simp [results, Tryz.results7, go_sem, q0, q1, q2, q3, q4, q5, q6]) rfl ⟨rfl, HGB.out, HTB.out⟩

set_option maxRecDepth 100000 in
set_option maxHeartbeats 1000000 in
theorem conext_over {w : World} {B : Nat} {e0 e1 e2 : Value} {ct fe ag li cn tr wt rd now f state err : Int} (g : w.heap[B]? = some (.cells (coA e0 e1 e2 ct fe ag li cn tr wt f rd false 2 state err) 62 (0, 0))) :
    Calls Tryz.prog 7 #[.pointer (some ⟨B, 0, none⟩), .int .i64 now] w fun e w' => e = .returned (.tuple #[.agg #[.int .i64 0, .string { data := #[] }, .slice none 0 0, .int .i64 0, .int .i64 0, .int .i64 0, .int .i64 0], .bool false]) ∧ w'.heap[B]? = some (.cells (coA e0 e1 e2 ct fe ag li cn tr wt f rd false 2 state err) 62 (0, 0)) ∧ Turns B w w' := by
  obtain ⟨w1, hw1⟩ : ∃ w1, w1 = w.alloc (.cells #[.int .i64 0, .string { data := #[] }, .slice none 0 0, .int .i64 0, .int .i64 0, .int .i64 0, .int .i64 0] 35) := ⟨_, rfl⟩
  have hlt := (Array.getElem?_eq_some_iff.1 g).1
  have hb1 : Below w.heap.size w w1 := by rw [hw1]; exact (Below.refl _ _).alloc (Nat.le_refl _) _
  have g1 := (hb1.block B hlt).trans g
  have hlt1 : w.heap.size < w1.heap.size := by rw [hw1]; exact (Array.getElem?_eq_some_iff.1 (heap_alloc_new w _)).1
  have gr : w1.heap[w.heap.size]? = some (.cells #[.int .i64 0, .string { data := #[] }, .slice none 0 0, .int .i64 0, .int .i64 0, .int .i64 0, .int .i64 0] 35 (0, 0)) := by rw [hw1]; exact heap_alloc_new w _
  have hT : Turns B w w1 := (Turns.refl B w).below hb1
  have c13 := cell_blk g1 (i := 13) (u := .int .i64 2) rfl
  have HG2 := Lib.hid gr
  have HGB := Lib.hid ((setRow_other w1 w.heap.size B #[.int .i64 0, .string { data := #[] }, .slice none 0 0, .int .i64 0, .int .i64 0, .int .i64 0, .int .i64 0] (by omega)).trans g1)
  have HTB := Lib.hid (hT.setRow_new (Nat.le_refl _) #[.int .i64 0, .string { data := #[] }, .slice none 0 0, .int .i64 0, .int .i64 0, .int .i64 0, .int .i64 0])
  have e0' := fun j => cell_setRow_same w1 w.heap.size j _ #[.int .i64 0, .string { data := #[] }, .slice none 0 0, .int .i64 0, .int .i64 0, .int .i64 0, .int .i64 0] _ _ gr
  have q0 := e0' 0
  have q1 := e0' 1
  have q2 := e0' 2
  have q3 := e0' 3
  have q4 := e0' 4
  have q5 := e0' 5
  have q6 := e0' 6
  rw [hw1] at HG2 HGB HTB c13 q0 q1 q2 q3 q4 q5 q6
  clear e0' g g1 hb1 hlt hlt1 gr hT
  subst hw1
  go_enter Tryz.func7, Tryz.ntmps7
  go_wp2_with (refine wpList_store_row rfl 35 (.tmp 4) (.tmp 25) rfl w.heap.size #[.int .i64 0, .string { data := #[] }, .slice none 0 0, .int .i64 0, .int .i64 0, .int .i64 0, .int .i64 0] rfl rfl 35 _ HG2.out (by kernel_rfl) (by rfl) (by simp [Value.oneCell']) ?_)
  exact bodyPost_ret (v := .tuple #[.agg #[.int .i64 0, .string { data := #[] }, .slice none 0 0, .int .i64 0, .int .i64 0, .int .i64 0, .int .i64 0], .bool false]) (by simp [results, Tryz.results7, go_sem, q0, q1, q2, q3, q4, q5, q6]) rfl ⟨rfl, HGB.out, HTB.out⟩

set_option maxRecDepth 100000 in
set_option maxHeartbeats 1000000 in
theorem conext_wait {w : World} {B : Nat} {e0 e1 e2 : Value} {ct fe ag li cn tr wt rd now f state err : Int} (g : w.heap[B]? = some (.cells (coA e0 e1 e2 ct fe ag li cn tr wt f rd false 0 state err) 62 (0, 0))) (h : now < rd) :
    Calls Tryz.prog 7 #[.pointer (some ⟨B, 0, none⟩), .int .i64 now] w fun e w' => e = .returned (.tuple #[.agg #[.int .i64 0, .string { data := #[] }, .slice none 0 0, .int .i64 0, .int .i64 0, .int .i64 0, .int .i64 0], .bool false]) ∧ w'.heap[B]? = some (.cells (coA e0 e1 e2 ct fe ag li cn tr wt f rd false 0 state err) 62 (0, 0)) ∧ Turns B w w' := by
  obtain ⟨w1, hw1⟩ : ∃ w1, w1 = w.alloc (.cells #[.int .i64 0, .string { data := #[] }, .slice none 0 0, .int .i64 0, .int .i64 0, .int .i64 0, .int .i64 0] 35) := ⟨_, rfl⟩
  have hlt := (Array.getElem?_eq_some_iff.1 g).1
  have hb1 : Below w.heap.size w w1 := by rw [hw1]; exact (Below.refl _ _).alloc (Nat.le_refl _) _
  have g1 := (hb1.block B hlt).trans g
  have hlt1 : w.heap.size < w1.heap.size := by rw [hw1]; exact (Array.getElem?_eq_some_iff.1 (heap_alloc_new w _)).1
  have gr : w1.heap[w.heap.size]? = some (.cells #[.int .i64 0, .string { data := #[] }, .slice none 0 0, .int .i64 0, .int .i64 0, .int .i64 0, .int .i64 0] 35 (0, 0)) := by rw [hw1]; exact heap_alloc_new w _
  have hT : Turns B w w1 := (Turns.refl B w).below hb1
  have c13 := cell_blk g1 (i := 13) (u := .int .i64 0) rfl
  have HTL := Lib.hid (tell_no (o := 8) (now := now) g1 rfl rfl h)
  have HG2 := Lib.hid gr
  have HGB := Lib.hid ((setRow_other w1 w.heap.size B #[.int .i64 0, .string { data := #[] }, .slice none 0 0, .int .i64 0, .int .i64 0, .int .i64 0, .int .i64 0] (by omega)).trans g1)
  have HTB := Lib.hid (hT.setRow_new (Nat.le_refl _) #[.int .i64 0, .string { data := #[] }, .slice none 0 0, .int .i64 0, .int .i64 0, .int .i64 0, .int .i64 0])
  have e0' := fun j => cell_setRow_same w1 w.heap.size j _ #[.int .i64 0, .string { data := #[] }, .slice none 0 0, .int .i64 0, .int .i64 0, .int .i64 0, .int .i64 0] _ _ gr
  have q0 := e0' 0
  have q1 := e0' 1
  have q2 := e0' 2
  have q3 := e0' 3
  have q4 := e0' 4
  have q5 := e0' 5
  have q6 := e0' 6
  rw [hw1] at HG2 HGB HTB c13 q0 q1 q2 q3 q4 q5 q6 HTL
  clear e0' g g1 hb1 hlt hlt1 gr hT
  subst hw1
  go_enter Tryz.func7, Tryz.ntmps7
  go_wp2_with fail
  refine HTL.out.mono ?_
  rintro e w2 ⟨rfl, rfl⟩
  go_wp2_with (refine wpList_store_row rfl 35 (.tmp 4) (.tmp 25) rfl w.heap.size #[.int .i64 0, .string { data := #[] }, .slice none 0 0, .int .i64 0, .int .i64 0, .int .i64 0, .int .i64 0] rfl rfl 35 _ HG2.out (by kernel_rfl) (by rfl) (by simp [Value.oneCell']) ?_)
  exact bodyPost_ret (v := .tuple #[.agg #[.int .i64 0, .string { data := #[] }, .slice none 0 0, .int .i64 0, .int .i64 0, .int .i64 0, .int .i64 0], .bool false]) (by simp [results, Tryz.results7, go_sem, q0, q1, q2, q3, q4, q5, q6]) rfl ⟨rfl, HGB.out, HTB.out⟩
end Go.Proofs.YtmpcbfjcmnjlnaaGreatDoor
