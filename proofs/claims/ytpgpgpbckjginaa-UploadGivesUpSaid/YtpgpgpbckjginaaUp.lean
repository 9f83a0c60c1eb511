/- An upload whose replies never come: its functions, walked. -/
import Derived.Test.YtpgpgpbckjginaaPace
namespace Go.Proofs.Ytpgpgpbckjginaa
open Go.RowKit
set_option linter.unusedVariables false

def upA (ky : ByteArray) (da : Option Addr) (dn dc : Nat) (sz pt tr wt f rd : Int) (told : Bool) (st state : Int) : Array Value :=
  #[.string ky, .slice da dn dc, .int .i64 sz, .int .i64 pt, .int .i64 1, .int .i64 tr, .int .i64 wt, .int .i64 f, .int .i64 rd, .bool told, .int .i64 st, .int .i64 0, .bool false, .bool false, .int .i64 state, .int .i64 0]
theorem Turns.setRow_new {B : Nat} {a w : World} (h : Turns B a w) {g : Nat} (hg : a.heap.size ≤ g) (cs : Array Value) : Turns B a (w.setRow g cs) :=
  ⟨h.os, h.tape, h.output, by rw [setRow_size]; exact h.size, fun k hk hne => (setRow_other w g k cs (by omega)).trans (h.block k hk hne)⟩

set_option maxRecDepth 100000 in
theorem state_any {w : World} {B : Nat} {ky : ByteArray} {da : Option Addr} {dn dc : Nat} {sz pt tr wt f rd st state : Int} {told : Bool} (g : w.heap[B]? = some (.cells (upA ky da dn dc sz pt tr wt f rd told st state) 61 (0, 0))) :
    Calls Try.prog 12 #[.pointer (some ⟨B, 0, none⟩)] w fun e w' => e = .returned (.int .i64 state) ∧ w = w' := by
  have c14 := cell_blk g (i := 14) rfl
  clear g
  go_enter Try.func12, Try.ntmps12
  go_wp2_with fail
  go_ret
  exact ⟨rfl, rfl⟩

set_option maxRecDepth 100000 in
theorem end_any {w : World} {B : Nat} {ky : ByteArray} {da : Option Addr} {dn dc : Nat} {sz pt tr wt f rd st state : Int} {told : Bool} (s : Int) (g : w.heap[B]? = some (.cells (upA ky da dn dc sz pt tr wt f rd told st state) 61 (0, 0))) :
    Calls Try.prog 40 #[.pointer (some ⟨B, 0, none⟩), .int .i64 s] w fun e w' => e = .returned (.tuple #[]) ∧ w'.heap[B]? = some (.cells (upA ky da dn dc sz pt tr wt f rd told 5 s) 61 (0, 0)) ∧ Turns B w w' := by
  have c14 := cell_blk g (i := 14) rfl
  have f14 := fro_blk g 14
  have g1 := heap_set g 14 (.int .i64 s)
  have c10 := cell_blk g1 (i := 10) rfl
  have f10 := fro_blk g1 10
  have HG := Lib.hid (heap_set g1 10 (.int .i64 5))
  have HT := Lib.hid (((Turns.refl B w).set 14 (.int .i64 s)).set 10 (.int .i64 5))
  clear g g1
  go_enter Try.func40, Try.ntmps40
  go_wp2_with fail
  first | go_end0 | refine bodyPost_ret (results_none rfl _ _ _) rfl ?_
  exact ⟨rfl, HG.out, HT.out⟩

set_option maxRecDepth 100000 in
set_option maxHeartbeats 1000000 in
theorem ufail_more {w : World} {B : Nat} {ky : ByteArray} {da : Option Addr} {dn dc : Nat} {sz pt tr wt rd now : Int} {f : Nat} (g : w.heap[B]? = some (.cells (upA ky da dn dc sz pt tr wt (f : Int) rd false 0 0) 61 (0, 0))) (hf : f ≤ 10) (hw : 0 ≤ wt ∧ wt ≤ 1000) (hn : 0 ≤ now ∧ now ≤ 10000000) (h : (f : Int) + 1 < tr) :
    Calls Try.prog 41 #[.pointer (some ⟨B, 0, none⟩), .bool true, .int .i64 now] w fun e w' => e = .returned (.tuple #[]) ∧ w'.heap[B]? = some (.cells (upA ky da dn dc sz pt tr wt ((f : Int) + 1) (now + wt * 2 ^ f) false 0 0) 61 (0, 0)) ∧ Turns B w w' := by
  have HF := Lib.hid (fail_more (o := 5) g rfl rfl rfl rfl hf hw hn h)
  clear g
  go_enter Try.func41, Try.ntmps41
  go_wp2_with fail
  refine HF.out.mono ?_
  rintro e w2 ⟨rfl, hg2, ht2⟩
  have HG := Lib.hid hg2
  have HT := Lib.hid ht2
  clear hg2 ht2
  go_wp2_with fail
  first | go_end0 | refine bodyPost_ret (results_none rfl _ _ _) rfl ?_
  exact ⟨rfl, HG.out, HT.out⟩

set_option maxRecDepth 100000 in
set_option maxHeartbeats 1000000 in
theorem ufail_last {w : World} {B : Nat} {ky : ByteArray} {da : Option Addr} {dn dc : Nat} {sz pt tr wt rd now : Int} {f : Nat} (g : w.heap[B]? = some (.cells (upA ky da dn dc sz pt tr wt (f : Int) rd false 0 0) 61 (0, 0))) (hf : f ≤ 10) (h : tr ≤ (f : Int) + 1) :
    Calls Try.prog 41 #[.pointer (some ⟨B, 0, none⟩), .bool true, .int .i64 now] w fun e w' => e = .returned (.tuple #[]) ∧ w'.heap[B]? = some (.cells (upA ky da dn dc sz pt tr wt ((f : Int) + 1) rd false 5 2) 61 (0, 0)) ∧ Turns B w w' := by
  have HF := Lib.hid (fail_last (o := 5) (now := now) g rfl rfl (by omega) h)
  clear g
  go_enter Try.func41, Try.ntmps41
  go_wp2_with fail
  refine HF.out.mono ?_
  rintro e w2 ⟨rfl, hg2, ht2⟩
  have hg3 : w2.heap[B]? = some (.cells (upA ky da dn dc sz pt tr wt ((f : Int) + 1) rd false 0 0) 61 (0, 0)) := hg2
  have c12 := cell_blk hg3 (i := 12) (u := .bool false) rfl
  have HE := Lib.hid (end_any 2 hg3)
  have HT := Lib.hid ht2
  clear hg2 hg3 ht2
  go_wp2_with fail
  refine HE.out.mono ?_
  rintro e w3 ⟨rfl, hg3, ht3⟩
  have HG3 := Lib.hid hg3
  have HT3 := Lib.hid (HT.out.trans ht3)
  clear hg3 ht3
  go_wp2_with fail
  first | go_end0 | refine bodyPost_ret (results_none rfl _ _ _) rfl ?_
  exact ⟨rfl, HG3.out, HT3.out⟩

set_option maxRecDepth 100000 in
set_option maxHeartbeats 1000000 in
theorem created_more {w : World} {B : Nat} {ky : ByteArray} {da : Option Addr} {dn dc : Nat} {sz pt tr wt rd now : Int} {f : Nat} (g : w.heap[B]? = some (.cells (upA ky da dn dc sz pt tr wt (f : Int) rd false 0 0) 61 (0, 0))) (hf : f ≤ 10) (hw : 0 ≤ wt ∧ wt ≤ 1000) (hn : 0 ≤ now ∧ now ≤ 10000000) (h : (f : Int) + 1 < tr) :
    Calls Try.prog 36 #[.pointer (some ⟨B, 0, none⟩), .agg #[.int .i64 10, .slice none 0 0, .int .i64 0, .int .i64 0, .int .i64 0, .slice none 0 0, .bool false], .int .i64 now] w fun e w' => e = .returned (.tuple #[]) ∧ w'.heap[B]? = some (.cells (upA ky da dn dc sz pt tr wt ((f : Int) + 1) (now + wt * 2 ^ f) false 0 0) 61 (0, 0)) ∧ Turns B w w' := by
  obtain ⟨w1, hw1⟩ : ∃ w1, w1 = w.alloc (.cells #[.int .i64 10, .slice none 0 0, .int .i64 0, .int .i64 0, .int .i64 0, .slice none 0 0, .bool false] 45) := ⟨_, rfl⟩
  have hlt := (Array.getElem?_eq_some_iff.1 g).1
  have hb1 : Below w.heap.size w w1 := by rw [hw1]; exact (Below.refl _ _).alloc (Nat.le_refl _) _
  have g1 := (hb1.block B hlt).trans g
  have HF := Lib.hid (ufail_more (now := now) g1 hf hw hn h)
  have HT := Lib.hid ((Turns.refl B w).below hb1)
  have z10 : ((10 : Int) != 0) = true := by decide
  rw [hw1] at HF HT
  have HF := Lib.hid HF.out
  clear g g1 hb1 hlt
  subst hw1
  go_enter Try.func36, Try.ntmps36
  go_wp2_with fail
  refine (passes_net _).mono ?_
  rintro e w2 ⟨rfl, rfl⟩
  go_wp2_with fail
  refine HF.out.mono ?_
  rintro e w3 ⟨rfl, hg3, ht3⟩
  have HG3 := Lib.hid hg3
  have HT3 := Lib.hid (HT.out.trans ht3)
  clear hg3 ht3
  go_wp2_with fail
  first | go_end0 | refine bodyPost_ret (results_none rfl _ _ _) rfl ?_
  exact ⟨rfl, HG3.out, HT3.out⟩

set_option maxRecDepth 100000 in
set_option maxHeartbeats 1000000 in
theorem take_more {w : World} {B : Nat} {ky : ByteArray} {da : Option Addr} {dn dc : Nat} {sz pt tr wt rd now : Int} {f : Nat} (g : w.heap[B]? = some (.cells (upA ky da dn dc sz pt tr wt (f : Int) rd true 0 0) 61 (0, 0))) (hf : f ≤ 10) (hw : 0 ≤ wt ∧ wt ≤ 1000) (hn : 0 ≤ now ∧ now ≤ 10000000) (h : (f : Int) + 1 < tr) :
    Calls Try.prog 17 #[.pointer (some ⟨B, 0, none⟩), .agg #[.int .i64 10, .slice none 0 0, .int .i64 0, .int .i64 0, .int .i64 0, .slice none 0 0, .bool false], .int .i64 now] w fun e w' => (∃ v, e = .returned v) ∧ w'.heap[B]? = some (.cells (upA ky da dn dc sz pt tr wt ((f : Int) + 1) (now + wt * 2 ^ f) false 0 0) 61 (0, 0)) ∧ Turns B w w' := by
  obtain ⟨w1, hw1⟩ : ∃ w1, w1 = w.alloc (.cells #[.int .i64 10, .slice none 0 0, .int .i64 0, .int .i64 0, .int .i64 0, .slice none 0 0, .bool false] 45) := ⟨_, rfl⟩
  have hlt := (Array.getElem?_eq_some_iff.1 g).1
  have hb1 : Below w.heap.size w w1 := by rw [hw1]; exact (Below.refl _ _).alloc (Nat.le_refl _) _
  have g1 := (hb1.block B hlt).trans g
  have hlt1 : w.heap.size < w1.heap.size := by rw [hw1]; exact (Array.getElem?_eq_some_iff.1 (heap_alloc_new w _)).1
  have gr : w1.heap[w.heap.size]? = some (.cells #[.int .i64 10, .slice none 0 0, .int .i64 0, .int .i64 0, .int .i64 0, .slice none 0 0, .bool false] 45 (0, 0)) := by rw [hw1]; exact heap_alloc_new w _
  have HTK := Lib.hid (taken_yes (o := 5) g1 rfl)
  have HT := Lib.hid ((Turns.refl B w).below hb1)
  have HR := Lib.hid (fun (w2 : World) (h : Turns B w1 w2) => (h.block w.heap.size hlt1 (by omega)).trans gr)
  rw [hw1] at HTK HT HR
  have HTK := Lib.hid HTK.out
  have HR := Lib.hid HR.out
  clear g g1 hb1 hlt hlt1 gr
  subst hw1
  go_enter Try.func17, Try.ntmps17
  go_wp2_with fail
  refine HTK.out.mono ?_
  rintro e w2 ⟨rfl, hg2, ht2⟩
  have hg3 : w2.heap[B]? = some (.cells (upA ky da dn dc sz pt tr wt (f : Int) rd false 0 0) 61 (0, 0)) := hg2
  have c10 := cell_blk hg3 (i := 10) (u := .int .i64 0) rfl
  have gr2 := HR.out w2 ht2
  have r0 := cell_blk gr2 (i := 0) (u := .int .i64 10) rfl
  have r1 := cell_blk gr2 (i := 1) (u := .slice none 0 0) rfl
  have r2 := cell_blk gr2 (i := 2) (u := .int .i64 0) rfl
  have r3 := cell_blk gr2 (i := 3) (u := .int .i64 0) rfl
  have r4 := cell_blk gr2 (i := 4) (u := .int .i64 0) rfl
  have r5 := cell_blk gr2 (i := 5) (u := .slice none 0 0) rfl
  have r6 := cell_blk gr2 (i := 6) (u := .bool false) rfl
  have HC := Lib.hid (created_more (now := now) hg3 hf hw hn h)
  have HT2 := Lib.hid (HT.out.trans ht2)
  clear hg2 hg3 ht2 gr2
  go_wp2_with fail
  refine HC.out.mono ?_
  rintro e w3 ⟨rfl, hg3, ht3⟩
  have HG3 := Lib.hid hg3
  have HT3 := Lib.hid (HT2.out.trans ht3)
  clear hg3 ht3
  go_wp2_with fail
  go_ret
  exact ⟨⟨_, rfl⟩, HG3.out, HT3.out⟩

set_option maxRecDepth 100000 in
set_option maxHeartbeats 1000000 in
theorem created_last {w : World} {B : Nat} {ky : ByteArray} {da : Option Addr} {dn dc : Nat} {sz pt tr wt rd now : Int} {f : Nat} (g : w.heap[B]? = some (.cells (upA ky da dn dc sz pt tr wt (f : Int) rd false 0 0) 61 (0, 0))) (hf : f ≤ 10) (h : tr ≤ (f : Int) + 1) :
    Calls Try.prog 36 #[.pointer (some ⟨B, 0, none⟩), .agg #[.int .i64 10, .slice none 0 0, .int .i64 0, .int .i64 0, .int .i64 0, .slice none 0 0, .bool false], .int .i64 now] w fun e w' => e = .returned (.tuple #[]) ∧ w'.heap[B]? = some (.cells (upA ky da dn dc sz pt tr wt ((f : Int) + 1) rd false 5 2) 61 (0, 0)) ∧ Turns B w w' := by
  obtain ⟨w1, hw1⟩ : ∃ w1, w1 = w.alloc (.cells #[.int .i64 10, .slice none 0 0, .int .i64 0, .int .i64 0, .int .i64 0, .slice none 0 0, .bool false] 45) := ⟨_, rfl⟩
  have hlt := (Array.getElem?_eq_some_iff.1 g).1
  have hb1 : Below w.heap.size w w1 := by rw [hw1]; exact (Below.refl _ _).alloc (Nat.le_refl _) _
  have g1 := (hb1.block B hlt).trans g
  have HF := Lib.hid (ufail_last (now := now) g1 hf h)
  have HT := Lib.hid ((Turns.refl B w).below hb1)
  have z10 : ((10 : Int) != 0) = true := by decide
  rw [hw1] at HF HT
  have HF := Lib.hid HF.out
  clear g g1 hb1 hlt
  subst hw1
  go_enter Try.func36, Try.ntmps36
  go_wp2_with fail
  refine (passes_net _).mono ?_
  rintro e w2 ⟨rfl, rfl⟩
  go_wp2_with fail
  refine HF.out.mono ?_
  rintro e w3 ⟨rfl, hg3, ht3⟩
  have HG3 := Lib.hid hg3
  have HT3 := Lib.hid (HT.out.trans ht3)
  clear hg3 ht3
  go_wp2_with fail
  first | go_end0 | refine bodyPost_ret (results_none rfl _ _ _) rfl ?_
  exact ⟨rfl, HG3.out, HT3.out⟩

set_option maxRecDepth 100000 in
set_option maxHeartbeats 1000000 in
theorem take_last {w : World} {B : Nat} {ky : ByteArray} {da : Option Addr} {dn dc : Nat} {sz pt tr wt rd now : Int} {f : Nat} (g : w.heap[B]? = some (.cells (upA ky da dn dc sz pt tr wt (f : Int) rd true 0 0) 61 (0, 0))) (hf : f ≤ 10) (h : tr ≤ (f : Int) + 1) :
    Calls Try.prog 17 #[.pointer (some ⟨B, 0, none⟩), .agg #[.int .i64 10, .slice none 0 0, .int .i64 0, .int .i64 0, .int .i64 0, .slice none 0 0, .bool false], .int .i64 now] w fun e w' => (∃ v, e = .returned v) ∧ w'.heap[B]? = some (.cells (upA ky da dn dc sz pt tr wt ((f : Int) + 1) rd false 5 2) 61 (0, 0)) ∧ Turns B w w' := by
  obtain ⟨w1, hw1⟩ : ∃ w1, w1 = w.alloc (.cells #[.int .i64 10, .slice none 0 0, .int .i64 0, .int .i64 0, .int .i64 0, .slice none 0 0, .bool false] 45) := ⟨_, rfl⟩
  have hlt := (Array.getElem?_eq_some_iff.1 g).1
  have hb1 : Below w.heap.size w w1 := by rw [hw1]; exact (Below.refl _ _).alloc (Nat.le_refl _) _
  have g1 := (hb1.block B hlt).trans g
  have hlt1 : w.heap.size < w1.heap.size := by rw [hw1]; exact (Array.getElem?_eq_some_iff.1 (heap_alloc_new w _)).1
  have gr : w1.heap[w.heap.size]? = some (.cells #[.int .i64 10, .slice none 0 0, .int .i64 0, .int .i64 0, .int .i64 0, .slice none 0 0, .bool false] 45 (0, 0)) := by rw [hw1]; exact heap_alloc_new w _
  have HTK := Lib.hid (taken_yes (o := 5) g1 rfl)
  have HT := Lib.hid ((Turns.refl B w).below hb1)
  have HR := Lib.hid (fun (w2 : World) (h : Turns B w1 w2) => (h.block w.heap.size hlt1 (by omega)).trans gr)
  rw [hw1] at HTK HT HR
  have HTK := Lib.hid HTK.out
  have HR := Lib.hid HR.out
  clear g g1 hb1 hlt hlt1 gr
  subst hw1
  go_enter Try.func17, Try.ntmps17
  go_wp2_with fail
  refine HTK.out.mono ?_
  rintro e w2 ⟨rfl, hg2, ht2⟩
  have hg3 : w2.heap[B]? = some (.cells (upA ky da dn dc sz pt tr wt (f : Int) rd false 0 0) 61 (0, 0)) := hg2
  have c10 := cell_blk hg3 (i := 10) (u := .int .i64 0) rfl
  have gr2 := HR.out w2 ht2
  have r0 := cell_blk gr2 (i := 0) (u := .int .i64 10) rfl
  have r1 := cell_blk gr2 (i := 1) (u := .slice none 0 0) rfl
  have r2 := cell_blk gr2 (i := 2) (u := .int .i64 0) rfl
  have r3 := cell_blk gr2 (i := 3) (u := .int .i64 0) rfl
  have r4 := cell_blk gr2 (i := 4) (u := .int .i64 0) rfl
  have r5 := cell_blk gr2 (i := 5) (u := .slice none 0 0) rfl
  have r6 := cell_blk gr2 (i := 6) (u := .bool false) rfl
  have HC := Lib.hid (created_last (now := now) hg3 hf h)
  have HT2 := Lib.hid (HT.out.trans ht2)
  clear hg2 hg3 ht2 gr2
  go_wp2_with fail
  refine HC.out.mono ?_
  rintro e w3 ⟨rfl, hg3, ht3⟩
  have HG3 := Lib.hid hg3
  have HT3 := Lib.hid (HT2.out.trans ht3)
  clear hg3 ht3
  go_wp2_with fail
  go_ret
  exact ⟨⟨_, rfl⟩, HG3.out, HT3.out⟩
end Go.Proofs.Ytpgpgpbckjginaa
