/- Texts put together by packtpl2.py: Up, UpNext, UpNew, UpPacesWalk, UdWalk, UcWalk, UpOpen. -/
import Derived.Test.YtodoklnohedolaaPkUC1
import Derived.Test.YtodoklnohedolaaPkUC6
import Derived.Laws.Tables
import Derived.Lib.SlBytesConst
import Derived.BigQuiet
import Derived.Deep.Slices
import Derived.Deep.Fields
import Derived.SizedLaws
import Derived.Below
import Derived.OpenShut
import Derived.ChangeSlices
section PkUC7_0
/- An upload whose replies never come: its functions, walked. -/
namespace Go.Proofs.Ytodoklnohedolaa
open Go.RowKit
set_option linter.unusedVariables false

def upA (ky : ByteArray) (da : Option Addr) (dn dc : Nat) (sz pt tr wt f rd : Int) (told : Bool) (st state : Int) : Array Value :=
  #[.string ky, .slice da dn dc, .int .i64 sz, .int .i64 pt, .int .i64 1, .int .i64 tr, .int .i64 wt, .int .i64 f, .int .i64 rd, .bool told, .int .i64 st, .int .i64 0, .bool false, .bool false, .int .i64 state, .int .i64 0]
theorem Turns.setRow_new {B : Nat} {a w : World} (h : Turns B a w) {g : Nat} (hg : a.heap.size ≤ g) (cs : Array Value) : Turns B a (w.setRow g cs) :=
  ⟨h.os, h.tape, h.output, by rw [setRow_size]; exact h.size, fun k hk hne => (setRow_other w g k cs (by omega)).trans (h.block k hk hne)⟩

set_option maxRecDepth 100000 in
theorem state_any {w : World} {B : Nat} {ky : ByteArray} {da : Option Addr} {dn dc : Nat} {sz pt tr wt f rd st state : Int} {told : Bool} (g : w.heap[B]? = some (.cells (upA ky da dn dc sz pt tr wt f rd told st state) 75 (0, 0))) :
    Calls Try.prog 18 #[.pointer (some ⟨B, 0, none⟩)] w fun e w' => e = .returned (.int .i64 state) ∧ w = w' := by
  have c14 := cell_blk g (i := 14) rfl
  clear g
  go_enter Try.func18, Try.ntmps18
  go_wp2_with fail
  go_ret
  exact ⟨rfl, rfl⟩

set_option maxRecDepth 100000 in
theorem end_any {w : World} {B : Nat} {ky : ByteArray} {da : Option Addr} {dn dc : Nat} {sz pt tr wt f rd st state : Int} {told : Bool} (s : Int) (g : w.heap[B]? = some (.cells (upA ky da dn dc sz pt tr wt f rd told st state) 75 (0, 0))) :
    Calls Try.prog 57 #[.pointer (some ⟨B, 0, none⟩), .int .i64 s] w fun e w' => e = .returned (.tuple #[]) ∧ w'.heap[B]? = some (.cells (upA ky da dn dc sz pt tr wt f rd told 5 s) 75 (0, 0)) ∧ Turns B w w' := by
  have c14 := cell_blk g (i := 14) rfl
  have f14 := fro_blk g 14
  have g1 := heap_set g 14 (.int .i64 s)
  have c10 := cell_blk g1 (i := 10) rfl
  have f10 := fro_blk g1 10
  have HG := Lib.hid (heap_set g1 10 (.int .i64 5))
  have HT := Lib.hid (((Turns.refl B w).set 14 (.int .i64 s)).set 10 (.int .i64 5))
  clear g g1
  go_enter Try.func57, Try.ntmps57
  go_wp2_with fail
  first | go_end0 | refine bodyPost_ret (results_none rfl _ _ _) rfl ?_
  exact ⟨rfl, HG.out, HT.out⟩

set_option maxRecDepth 100000 in
set_option maxHeartbeats 1000000 in
theorem ufail_more {w : World} {B : Nat} {ky : ByteArray} {da : Option Addr} {dn dc : Nat} {sz pt tr wt rd now : Int} {f : Nat} (g : w.heap[B]? = some (.cells (upA ky da dn dc sz pt tr wt (f : Int) rd false 0 0) 75 (0, 0))) (hf : f ≤ 10) (hw : 0 ≤ wt ∧ wt ≤ 1000) (hn : 0 ≤ now ∧ now ≤ 10000000) (h : (f : Int) + 1 < tr) :
    Calls Try.prog 73 #[.pointer (some ⟨B, 0, none⟩), .bool true, .int .i64 now] w fun e w' => e = .returned (.tuple #[]) ∧ w'.heap[B]? = some (.cells (upA ky da dn dc sz pt tr wt ((f : Int) + 1) (now + wt * 2 ^ f) false 0 0) 75 (0, 0)) ∧ Turns B w w' := by
  have HF := Lib.hid (fail_more (o := 5) g rfl rfl rfl rfl hf hw hn h)
  clear g
  go_enter Try.func73, Try.ntmps73
  go_wp2_with fail
  refine HF.out.mono ?_
  rintro e w2 ⟨rfl, hg2, ht2⟩
  have HG := Lib.hid hg2
  have HT := Lib.hid ht2
  clear hg2 ht2
  go_wp2_with fail
  first | go_end0 | refine bodyPost_ret (results_none rfl _ _ _) rfl ?_
  exact ⟨rfl, HG.out, HT.out⟩

set_option maxRecDepth 100000 in
set_option maxHeartbeats 1000000 in
theorem ufail_last {w : World} {B : Nat} {ky : ByteArray} {da : Option Addr} {dn dc : Nat} {sz pt tr wt rd now : Int} {f : Nat} (g : w.heap[B]? = some (.cells (upA ky da dn dc sz pt tr wt (f : Int) rd false 0 0) 75 (0, 0))) (hf : f ≤ 10) (h : tr ≤ (f : Int) + 1) :
    Calls Try.prog 73 #[.pointer (some ⟨B, 0, none⟩), .bool true, .int .i64 now] w fun e w' => e = .returned (.tuple #[]) ∧ w'.heap[B]? = some (.cells (upA ky da dn dc sz pt tr wt ((f : Int) + 1) rd false 5 2) 75 (0, 0)) ∧ Turns B w w' := by
  have HF := Lib.hid (fail_last (o := 5) (now := now) g rfl rfl (by omega) h)
  clear g
  go_enter Try.func73, Try.ntmps73
  go_wp2_with fail
  refine HF.out.mono ?_
  rintro e w2 ⟨rfl, hg2, ht2⟩
  have hg3 : w2.heap[B]? = some (.cells (upA ky da dn dc sz pt tr wt ((f : Int) + 1) rd false 0 0) 75 (0, 0)) := hg2
  have c12 := cell_blk hg3 (i := 12) (u := .bool false) rfl
  have HE := Lib.hid (end_any 2 hg3)
  have HT := Lib.hid ht2
  clear hg2 hg3 ht2
  go_wp2_with fail
  refine HE.out.mono ?_
  rintro e w3 ⟨rfl, hg3, ht3⟩
  have HG3 := Lib.hid hg3
  have HT3 := Lib.hid (HT.out.trans ht3)
  clear hg3 ht3
  go_wp2_with fail
  first | go_end0 | refine bodyPost_ret (results_none rfl _ _ _) rfl ?_
  exact ⟨rfl, HG3.out, HT3.out⟩

set_option maxRecDepth 100000 in
set_option maxHeartbeats 1000000 in
theorem created_more {w : World} {B : Nat} {ky : ByteArray} {da : Option Addr} {dn dc : Nat} {sz pt tr wt rd now : Int} {f : Nat} (g : w.heap[B]? = some (.cells (upA ky da dn dc sz pt tr wt (f : Int) rd false 0 0) 75 (0, 0))) (hf : f ≤ 10) (hw : 0 ≤ wt ∧ wt ≤ 1000) (hn : 0 ≤ now ∧ now ≤ 10000000) (h : (f : Int) + 1 < tr) :
    Calls Try.prog 53 #[.pointer (some ⟨B, 0, none⟩), .agg #[.int .i64 10, .slice none 0 0, .int .i64 0, .int .i64 0, .int .i64 0, .slice none 0 0, .bool false], .int .i64 now] w fun e w' => e = .returned (.tuple #[]) ∧ w'.heap[B]? = some (.cells (upA ky da dn dc sz pt tr wt ((f : Int) + 1) (now + wt * 2 ^ f) false 0 0) 75 (0, 0)) ∧ Turns B w w' := by
  obtain ⟨w1, hw1⟩ : ∃ w1, w1 = w.alloc (.cells #[.int .i64 10, .slice none 0 0, .int .i64 0, .int .i64 0, .int .i64 0, .slice none 0 0, .bool false] 36) := ⟨_, rfl⟩
  have hlt := (Array.getElem?_eq_some_iff.1 g).1
  have hb1 : Below w.heap.size w w1 := by rw [hw1]; exact (Below.refl _ _).alloc (Nat.le_refl _) _
  have g1 := (hb1.block B hlt).trans g
  have HF := Lib.hid (ufail_more (now := now) g1 hf hw hn h)
  have HT := Lib.hid ((Turns.refl B w).below hb1)
  have z10 : ((10 : Int) != 0) = true := by decide
  rw [hw1] at HF HT
  have HF := Lib.hid HF.out
  clear g g1 hb1 hlt
  subst hw1
  go_enter Try.func53, Try.ntmps53
  go_wp2_with fail
  refine (passes_net _).mono ?_
  rintro e w2 ⟨rfl, rfl⟩
  go_wp2_with fail
  refine HF.out.mono ?_
  rintro e w3 ⟨rfl, hg3, ht3⟩
  have HG3 := Lib.hid hg3
  have HT3 := Lib.hid (HT.out.trans ht3)
  clear hg3 ht3
  go_wp2_with fail
  first | go_end0 | refine bodyPost_ret (results_none rfl _ _ _) rfl ?_
  exact ⟨rfl, HG3.out, HT3.out⟩

set_option maxRecDepth 100000 in
set_option maxHeartbeats 1000000 in
theorem take_more {w : World} {B : Nat} {ky : ByteArray} {da : Option Addr} {dn dc : Nat} {sz pt tr wt rd now : Int} {f : Nat} (g : w.heap[B]? = some (.cells (upA ky da dn dc sz pt tr wt (f : Int) rd true 0 0) 75 (0, 0))) (hf : f ≤ 10) (hw : 0 ≤ wt ∧ wt ≤ 1000) (hn : 0 ≤ now ∧ now ≤ 10000000) (h : (f : Int) + 1 < tr) :
    Calls Try.prog 23 #[.pointer (some ⟨B, 0, none⟩), .agg #[.int .i64 10, .slice none 0 0, .int .i64 0, .int .i64 0, .int .i64 0, .slice none 0 0, .bool false], .int .i64 now] w fun e w' => (∃ v, e = .returned v) ∧ w'.heap[B]? = some (.cells (upA ky da dn dc sz pt tr wt ((f : Int) + 1) (now + wt * 2 ^ f) false 0 0) 75 (0, 0)) ∧ Turns B w w' := by
  obtain ⟨w1, hw1⟩ : ∃ w1, w1 = w.alloc (.cells #[.int .i64 10, .slice none 0 0, .int .i64 0, .int .i64 0, .int .i64 0, .slice none 0 0, .bool false] 36) := ⟨_, rfl⟩
  have hlt := (Array.getElem?_eq_some_iff.1 g).1
  have hb1 : Below w.heap.size w w1 := by rw [hw1]; exact (Below.refl _ _).alloc (Nat.le_refl _) _
  have g1 := (hb1.block B hlt).trans g
  have hlt1 : w.heap.size < w1.heap.size := by rw [hw1]; exact (Array.getElem?_eq_some_iff.1 (heap_alloc_new w _)).1
  have gr : w1.heap[w.heap.size]? = some (.cells #[.int .i64 10, .slice none 0 0, .int .i64 0, .int .i64 0, .int .i64 0, .slice none 0 0, .bool false] 36 (0, 0)) := by rw [hw1]; exact heap_alloc_new w _
  have HTK := Lib.hid (taken_yes (o := 5) g1 rfl)
  have HT := Lib.hid ((Turns.refl B w).below hb1)
  have HR := Lib.hid (fun (w2 : World) (h : Turns B w1 w2) => (h.block w.heap.size hlt1 (by omega)).trans gr)
  rw [hw1] at HTK HT HR
  have HTK := Lib.hid HTK.out
  have HR := Lib.hid HR.out
  clear g g1 hb1 hlt hlt1 gr
  subst hw1
  go_enter Try.func23, Try.ntmps23
  go_wp2_with fail
  refine HTK.out.mono ?_
  rintro e w2 ⟨rfl, hg2, ht2⟩
  have hg3 : w2.heap[B]? = some (.cells (upA ky da dn dc sz pt tr wt (f : Int) rd false 0 0) 75 (0, 0)) := hg2
  have c10 := cell_blk hg3 (i := 10) (u := .int .i64 0) rfl
  have gr2 := HR.out w2 ht2
  have r0 := cell_blk gr2 (i := 0) (u := .int .i64 10) rfl
  have r1 := cell_blk gr2 (i := 1) (u := .slice none 0 0) rfl
  have r2 := cell_blk gr2 (i := 2) (u := .int .i64 0) rfl
  have r3 := cell_blk gr2 (i := 3) (u := .int .i64 0) rfl
  have r4 := cell_blk gr2 (i := 4) (u := .int .i64 0) rfl
  have r5 := cell_blk gr2 (i := 5) (u := .slice none 0 0) rfl
  have r6 := cell_blk gr2 (i := 6) (u := .bool false) rfl
  have HC := Lib.hid (created_more (now := now) hg3 hf hw hn h)
  have HT2 := Lib.hid (HT.out.trans ht2)
  clear hg2 hg3 ht2 gr2
  go_wp2_with fail
  refine HC.out.mono ?_
  rintro e w3 ⟨rfl, hg3, ht3⟩
  have HG3 := Lib.hid hg3
  have HT3 := Lib.hid (HT2.out.trans ht3)
  clear hg3 ht3
  go_wp2_with fail
  go_ret
  exact ⟨⟨_, rfl⟩, HG3.out, HT3.out⟩

set_option maxRecDepth 100000 in
set_option maxHeartbeats 1000000 in
theorem created_last {w : World} {B : Nat} {ky : ByteArray} {da : Option Addr} {dn dc : Nat} {sz pt tr wt rd now : Int} {f : Nat} (g : w.heap[B]? = some (.cells (upA ky da dn dc sz pt tr wt (f : Int) rd false 0 0) 75 (0, 0))) (hf : f ≤ 10) (h : tr ≤ (f : Int) + 1) :
    Calls Try.prog 53 #[.pointer (some ⟨B, 0, none⟩), .agg #[.int .i64 10, .slice none 0 0, .int .i64 0, .int .i64 0, .int .i64 0, .slice none 0 0, .bool false], .int .i64 now] w fun e w' => e = .returned (.tuple #[]) ∧ w'.heap[B]? = some (.cells (upA ky da dn dc sz pt tr wt ((f : Int) + 1) rd false 5 2) 75 (0, 0)) ∧ Turns B w w' := by
  obtain ⟨w1, hw1⟩ : ∃ w1, w1 = w.alloc (.cells #[.int .i64 10, .slice none 0 0, .int .i64 0, .int .i64 0, .int .i64 0, .slice none 0 0, .bool false] 36) := ⟨_, rfl⟩
  have hlt := (Array.getElem?_eq_some_iff.1 g).1
  have hb1 : Below w.heap.size w w1 := by rw [hw1]; exact (Below.refl _ _).alloc (Nat.le_refl _) _
  have g1 := (hb1.block B hlt).trans g
  have HF := Lib.hid (ufail_last (now := now) g1 hf h)
  have HT := Lib.hid ((Turns.refl B w).below hb1)
  have z10 : ((10 : Int) != 0) = true := by decide
  rw [hw1] at HF HT
  have HF := Lib.hid HF.out
  clear g g1 hb1 hlt
  subst hw1
  go_enter Try.func53, Try.ntmps53
  go_wp2_with fail
  refine (passes_net _).mono ?_
  rintro e w2 ⟨rfl, rfl⟩
  go_wp2_with fail
  refine HF.out.mono ?_
  rintro e w3 ⟨rfl, hg3, ht3⟩
  have HG3 := Lib.hid hg3
  have HT3 := Lib.hid (HT.out.trans ht3)
  clear hg3 ht3
  go_wp2_with fail
  first | go_end0 | refine bodyPost_ret (results_none rfl _ _ _) rfl ?_
  exact ⟨rfl, HG3.out, HT3.out⟩

set_option maxRecDepth 100000 in
set_option maxHeartbeats 1000000 in
theorem take_last {w : World} {B : Nat} {ky : ByteArray} {da : Option Addr} {dn dc : Nat} {sz pt tr wt rd now : Int} {f : Nat} (g : w.heap[B]? = some (.cells (upA ky da dn dc sz pt tr wt (f : Int) rd true 0 0) 75 (0, 0))) (hf : f ≤ 10) (h : tr ≤ (f : Int) + 1) :
    Calls Try.prog 23 #[.pointer (some ⟨B, 0, none⟩), .agg #[.int .i64 10, .slice none 0 0, .int .i64 0, .int .i64 0, .int .i64 0, .slice none 0 0, .bool false], .int .i64 now] w fun e w' => (∃ v, e = .returned v) ∧ w'.heap[B]? = some (.cells (upA ky da dn dc sz pt tr wt ((f : Int) + 1) rd false 5 2) 75 (0, 0)) ∧ Turns B w w' := by
  obtain ⟨w1, hw1⟩ : ∃ w1, w1 = w.alloc (.cells #[.int .i64 10, .slice none 0 0, .int .i64 0, .int .i64 0, .int .i64 0, .slice none 0 0, .bool false] 36) := ⟨_, rfl⟩
  have hlt := (Array.getElem?_eq_some_iff.1 g).1
  have hb1 : Below w.heap.size w w1 := by rw [hw1]; exact (Below.refl _ _).alloc (Nat.le_refl _) _
  have g1 := (hb1.block B hlt).trans g
  have hlt1 : w.heap.size < w1.heap.size := by rw [hw1]; exact (Array.getElem?_eq_some_iff.1 (heap_alloc_new w _)).1
  have gr : w1.heap[w.heap.size]? = some (.cells #[.int .i64 10, .slice none 0 0, .int .i64 0, .int .i64 0, .int .i64 0, .slice none 0 0, .bool false] 36 (0, 0)) := by rw [hw1]; exact heap_alloc_new w _
  have HTK := Lib.hid (taken_yes (o := 5) g1 rfl)
  have HT := Lib.hid ((Turns.refl B w).below hb1)
  have HR := Lib.hid (fun (w2 : World) (h : Turns B w1 w2) => (h.block w.heap.size hlt1 (by omega)).trans gr)
  rw [hw1] at HTK HT HR
  have HTK := Lib.hid HTK.out
  have HR := Lib.hid HR.out
  clear g g1 hb1 hlt hlt1 gr
  subst hw1
  go_enter Try.func23, Try.ntmps23
  go_wp2_with fail
  refine HTK.out.mono ?_
  rintro e w2 ⟨rfl, hg2, ht2⟩
  have hg3 : w2.heap[B]? = some (.cells (upA ky da dn dc sz pt tr wt (f : Int) rd false 0 0) 75 (0, 0)) := hg2
  have c10 := cell_blk hg3 (i := 10) (u := .int .i64 0) rfl
  have gr2 := HR.out w2 ht2
  have r0 := cell_blk gr2 (i := 0) (u := .int .i64 10) rfl
  have r1 := cell_blk gr2 (i := 1) (u := .slice none 0 0) rfl
  have r2 := cell_blk gr2 (i := 2) (u := .int .i64 0) rfl
  have r3 := cell_blk gr2 (i := 3) (u := .int .i64 0) rfl
  have r4 := cell_blk gr2 (i := 4) (u := .int .i64 0) rfl
  have r5 := cell_blk gr2 (i := 5) (u := .slice none 0 0) rfl
  have r6 := cell_blk gr2 (i := 6) (u := .bool false) rfl
  have HC := Lib.hid (created_last (now := now) hg3 hf h)
  have HT2 := Lib.hid (HT.out.trans ht2)
  clear hg2 hg3 ht2 gr2
  go_wp2_with fail
  refine HC.out.mono ?_
  rintro e w3 ⟨rfl, hg3, ht3⟩
  have HG3 := Lib.hid hg3
  have HT3 := Lib.hid (HT2.out.trans ht3)
  clear hg3 ht3
  go_wp2_with fail
  go_ret
  exact ⟨⟨_, rfl⟩, HG3.out, HT3.out⟩
end Go.Proofs.Ytodoklnohedolaa
end PkUC7_0
section PkUC7_1
/- An upload's Next and New; layer 17's fixed fact: walked. -/
namespace Go.Proofs.Ytodoklnohedolaa
open Go.RowKit
set_option linter.unusedVariables false

set_option maxRecDepth 100000 in
set_option maxHeartbeats 1000000 in
theorem next_yes {w : World} {B : Nat} {ky : ByteArray} {da : Option Addr} {dn dc : Nat} {sz pt tr wt rd now f state : Int} (g : w.heap[B]? = some (.cells (upA ky da dn dc sz pt tr wt f rd false 0 state) 75 (0, 0))) (h : rd ≤ now) :
    Calls Try.prog 22 #[.pointer (some ⟨B, 0, none⟩), .int .i64 now] w fun e w' => e = .returned (.tuple #[.agg #[.int .i64 7, .string ky, .slice none 0 0, .int .i64 0, .int .i64 0, .int .i64 0, .int .i64 0], .bool true]) ∧ w'.heap[B]? = some (.cells (upA ky da dn dc sz pt tr wt f rd true 0 state) 75 (0, 0)) ∧ Turns B w w' := by
  obtain ⟨w1, hw1⟩ : ∃ w1, w1 = w.alloc (.cells #[.int .i64 0, .string { data := #[] }, .slice none 0 0, .int .i64 0, .int .i64 0, .int .i64 0, .int .i64 0] 30) := ⟨_, rfl⟩
  have hlt := (Array.getElem?_eq_some_iff.1 g).1
  have hb1 : Below w.heap.size w w1 := by rw [hw1]; exact (Below.refl _ _).alloc (Nat.le_refl _) _
  have g1 := (hb1.block B hlt).trans g
  have hlt1 : w.heap.size < w1.heap.size := by rw [hw1]; exact (Array.getElem?_eq_some_iff.1 (heap_alloc_new w _)).1
  have gr : w1.heap[w.heap.size]? = some (.cells #[.int .i64 0, .string { data := #[] }, .slice none 0 0, .int .i64 0, .int .i64 0, .int .i64 0, .int .i64 0] 30 (0, 0)) := by rw [hw1]; exact heap_alloc_new w _
  have hT : Turns B w w1 := (Turns.refl B w).below hb1
  have c10 := cell_blk g1 (i := 10) (u := .int .i64 0) rfl
  have HTL := Lib.hid (tell_yes (o := 5) (now := now) g1 rfl rfl h)
  have HR := Lib.hid (fun (w2 : World) (h : Turns B w1 w2) => (h.block w.heap.size hlt1 (by omega)).trans gr)
  have HT := Lib.hid hT
  have HNE := Lib.hid (show B ≠ w.heap.size by omega)
  rw [hw1] at HTL HT HR c10
  have HTL := Lib.hid HTL.out
  have HR := Lib.hid HR.out
  clear g g1 hb1 hlt hlt1 gr hT
  subst hw1
  go_enter Try.func22, Try.ntmps22
  go_wp2_with fail
  refine HTL.out.mono ?_
  rintro e w2 ⟨rfl, hg2, ht2⟩
  have hg3 : w2.heap[B]? = some (.cells (upA ky da dn dc sz pt tr wt f rd true 0 state) 75 (0, 0)) := hg2
  have k0 := cell_blk hg3 (i := 0) (u := .string ky) rfl
  have k10 := cell_blk hg3 (i := 10) (u := .int .i64 0) rfl
  have gr2 := HR.out w2 ht2
  have HG2 := Lib.hid gr2
  have HGB := Lib.hid ((setRow_other w2 w.heap.size B #[.int .i64 7, .string ky, .slice none 0 0, .int .i64 0, .int .i64 0, .int .i64 0, .int .i64 0] HNE.out).trans hg3)
  have HTB := Lib.hid ((HT.out.trans ht2).setRow_new (Nat.le_refl _) #[.int .i64 7, .string ky, .slice none 0 0, .int .i64 0, .int .i64 0, .int .i64 0, .int .i64 0])
  have e0 := fun j => cell_setRow_same w2 w.heap.size j _ #[.int .i64 7, .string ky, .slice none 0 0, .int .i64 0, .int .i64 0, .int .i64 0, .int .i64 0] _ _ gr2
  have q0 := e0 0
  have q1 := e0 1
  have q2 := e0 2
  have q3 := e0 3
  have q4 := e0 4
  have q5 := e0 5
  have q6 := e0 6
  clear e0 hg2 hg3 ht2 gr2
  go_wp2_with (refine wpList_store_row rfl 30 (.tmp 4) (.tmp 36) rfl w.heap.size #[.int .i64 7, .string ky, .slice none 0 0, .int .i64 0, .int .i64 0, .int .i64 0, .int .i64 0] rfl rfl 30 _ HG2.out (by kernel_rfl) (by rfl) (by simp [Value.oneCell']) ?_)
  exact bodyPost_ret (v := .tuple #[.agg #[.int .i64 7, .string ky, .slice none 0 0, .int .i64 0, .int .i64 0, .int .i64 0, .int .i64 0], .bool true]) (by simp [results, Try.results22, go_sem, q0, q1, q2, q3, q4, q5, q6]) rfl ⟨rfl, HGB.out, HTB.out⟩

set_option maxRecDepth 100000 in
set_option maxHeartbeats 1000000 in
theorem next_over {w : World} {B : Nat} {ky : ByteArray} {da : Option Addr} {dn dc : Nat} {sz pt tr wt rd now f state : Int} (g : w.heap[B]? = some (.cells (upA ky da dn dc sz pt tr wt f rd false 5 state) 75 (0, 0))) :
    Calls Try.prog 22 #[.pointer (some ⟨B, 0, none⟩), .int .i64 now] w fun e w' => e = .returned (.tuple #[.agg #[.int .i64 0, .string { data := #[] }, .slice none 0 0, .int .i64 0, .int .i64 0, .int .i64 0, .int .i64 0], .bool false]) ∧ w'.heap[B]? = some (.cells (upA ky da dn dc sz pt tr wt f rd false 5 state) 75 (0, 0)) ∧ Turns B w w' := by
  obtain ⟨w1, hw1⟩ : ∃ w1, w1 = w.alloc (.cells #[.int .i64 0, .string { data := #[] }, .slice none 0 0, .int .i64 0, .int .i64 0, .int .i64 0, .int .i64 0] 30) := ⟨_, rfl⟩
  have hlt := (Array.getElem?_eq_some_iff.1 g).1
  have hb1 : Below w.heap.size w w1 := by rw [hw1]; exact (Below.refl _ _).alloc (Nat.le_refl _) _
  have g1 := (hb1.block B hlt).trans g
  have hlt1 : w.heap.size < w1.heap.size := by rw [hw1]; exact (Array.getElem?_eq_some_iff.1 (heap_alloc_new w _)).1
  have gr : w1.heap[w.heap.size]? = some (.cells #[.int .i64 0, .string { data := #[] }, .slice none 0 0, .int .i64 0, .int .i64 0, .int .i64 0, .int .i64 0] 30 (0, 0)) := by rw [hw1]; exact heap_alloc_new w _
  have hT : Turns B w w1 := (Turns.refl B w).below hb1
  have c10 := cell_blk g1 (i := 10) (u := .int .i64 5) rfl
  have HG2 := Lib.hid gr
  have HGB := Lib.hid ((setRow_other w1 w.heap.size B #[.int .i64 0, .string { data := #[] }, .slice none 0 0, .int .i64 0, .int .i64 0, .int .i64 0, .int .i64 0] (by omega)).trans g1)
  have HTB := Lib.hid (hT.setRow_new (Nat.le_refl _) #[.int .i64 0, .string { data := #[] }, .slice none 0 0, .int .i64 0, .int .i64 0, .int .i64 0, .int .i64 0])
  have e0 := fun j => cell_setRow_same w1 w.heap.size j _ #[.int .i64 0, .string { data := #[] }, .slice none 0 0, .int .i64 0, .int .i64 0, .int .i64 0, .int .i64 0] _ _ gr
  have q0 := e0 0
  have q1 := e0 1
  have q2 := e0 2
  have q3 := e0 3
  have q4 := e0 4
  have q5 := e0 5
  have q6 := e0 6
  rw [hw1] at HG2 HGB HTB c10 q0 q1 q2 q3 q4 q5 q6
  clear e0 g g1 hb1 hlt hlt1 gr hT
  subst hw1
  go_enter Try.func22, Try.ntmps22
  go_wp2_with (refine wpList_store_row rfl 30 (.tmp 4) (.tmp 25) rfl w.heap.size #[.int .i64 0, .string { data := #[] }, .slice none 0 0, .int .i64 0, .int .i64 0, .int .i64 0, .int .i64 0] rfl rfl 30 _ HG2.out (by kernel_rfl) (by rfl) (by simp [Value.oneCell']) ?_)
  exact bodyPost_ret (v := .tuple #[.agg #[.int .i64 0, .string { data := #[] }, .slice none 0 0, .int .i64 0, .int .i64 0, .int .i64 0, .int .i64 0], .bool false]) (by simp [results, Try.results22, go_sem, q0, q1, q2, q3, q4, q5, q6]) rfl ⟨rfl, HGB.out, HTB.out⟩

set_option maxRecDepth 100000 in
set_option maxHeartbeats 1000000 in
theorem next_wait {w : World} {B : Nat} {ky : ByteArray} {da : Option Addr} {dn dc : Nat} {sz pt tr wt rd now f state : Int} (g : w.heap[B]? = some (.cells (upA ky da dn dc sz pt tr wt f rd false 0 state) 75 (0, 0))) (h : now < rd) :
    Calls Try.prog 22 #[.pointer (some ⟨B, 0, none⟩), .int .i64 now] w fun e w' => e = .returned (.tuple #[.agg #[.int .i64 0, .string { data := #[] }, .slice none 0 0, .int .i64 0, .int .i64 0, .int .i64 0, .int .i64 0], .bool false]) ∧ w'.heap[B]? = some (.cells (upA ky da dn dc sz pt tr wt f rd false 0 state) 75 (0, 0)) ∧ Turns B w w' := by
  obtain ⟨w1, hw1⟩ : ∃ w1, w1 = w.alloc (.cells #[.int .i64 0, .string { data := #[] }, .slice none 0 0, .int .i64 0, .int .i64 0, .int .i64 0, .int .i64 0] 30) := ⟨_, rfl⟩
  have hlt := (Array.getElem?_eq_some_iff.1 g).1
  have hb1 : Below w.heap.size w w1 := by rw [hw1]; exact (Below.refl _ _).alloc (Nat.le_refl _) _
  have g1 := (hb1.block B hlt).trans g
  have hlt1 : w.heap.size < w1.heap.size := by rw [hw1]; exact (Array.getElem?_eq_some_iff.1 (heap_alloc_new w _)).1
  have gr : w1.heap[w.heap.size]? = some (.cells #[.int .i64 0, .string { data := #[] }, .slice none 0 0, .int .i64 0, .int .i64 0, .int .i64 0, .int .i64 0] 30 (0, 0)) := by rw [hw1]; exact heap_alloc_new w _
  have hT : Turns B w w1 := (Turns.refl B w).below hb1
  have c10 := cell_blk g1 (i := 10) (u := .int .i64 0) rfl
  have HTL := Lib.hid (tell_no (o := 5) (now := now) g1 rfl rfl h)
  have HG2 := Lib.hid gr
  have HGB := Lib.hid ((setRow_other w1 w.heap.size B #[.int .i64 0, .string { data := #[] }, .slice none 0 0, .int .i64 0, .int .i64 0, .int .i64 0, .int .i64 0] (by omega)).trans g1)
  have HTB := Lib.hid (hT.setRow_new (Nat.le_refl _) #[.int .i64 0, .string { data := #[] }, .slice none 0 0, .int .i64 0, .int .i64 0, .int .i64 0, .int .i64 0])
  have e0 := fun j => cell_setRow_same w1 w.heap.size j _ #[.int .i64 0, .string { data := #[] }, .slice none 0 0, .int .i64 0, .int .i64 0, .int .i64 0, .int .i64 0] _ _ gr
  have q0 := e0 0
  have q1 := e0 1
  have q2 := e0 2
  have q3 := e0 3
  have q4 := e0 4
  have q5 := e0 5
  have q6 := e0 6
  rw [hw1] at HG2 HGB HTB c10 q0 q1 q2 q3 q4 q5 q6 HTL
  clear e0 g g1 hb1 hlt hlt1 gr hT
  subst hw1
  go_enter Try.func22, Try.ntmps22
  go_wp2_with fail
  refine HTL.out.mono ?_
  rintro e w2 ⟨rfl, rfl⟩
  go_wp2_with (refine wpList_store_row rfl 30 (.tmp 4) (.tmp 25) rfl w.heap.size #[.int .i64 0, .string { data := #[] }, .slice none 0 0, .int .i64 0, .int .i64 0, .int .i64 0, .int .i64 0] rfl rfl 30 _ HG2.out (by kernel_rfl) (by rfl) (by simp [Value.oneCell']) ?_)
  exact bodyPost_ret (v := .tuple #[.agg #[.int .i64 0, .string { data := #[] }, .slice none 0 0, .int .i64 0, .int .i64 0, .int .i64 0, .int .i64 0], .bool false]) (by simp [results, Try.results22, go_sem, q0, q1, q2, q3, q4, q5, q6]) rfl ⟨rfl, HGB.out, HTB.out⟩
end Go.Proofs.Ytodoklnohedolaa
end PkUC7_1
section PkUC7_2
/- An upload made; layer 17's fixed fact: walked. -/
namespace Go.Proofs.Ytodoklnohedolaa
open Go.RowKit
set_option linter.unusedVariables false

theorem divided_any (n d : Int) (hn : 0 ≤ n ∧ n ≤ 1000000) (hd : 1 ≤ d ∧ d ≤ 3000000) (w : World) :
    Calls Try.prog 36 #[.int .i64 n, .int .i64 d] w fun e w' => (∃ z : Int, e = .returned (.int .i64 z) ∧ 0 ≤ z ∧ z ≤ n + d) ∧ w = w' := by
  obtain ⟨hn0, hn1⟩ := hn
  obtain ⟨hd0, hd1⟩ := hd
  have hz : (d == 0) = false := by rw [beq_eq_false_iff_ne]; omega
  have hq0 : 0 ≤ (n + d - 1).tdiv d := Int.tdiv_nonneg (by omega) (by omega)
  have hq1 : (n + d - 1).tdiv d ≤ n + d := Int.le_trans (Int.tdiv_le_self _ (by omega)) (by omega)
  have HQ := Lib.hid (And.intro hq0 hq1)
  go_enter Try.func36, Try.ntmps36
  go_wp2_with fail
  go_ret
  exact ⟨⟨_, rfl, HQ.out.1, HQ.out.2⟩, rfl⟩

set_option maxRecDepth 100000 in
set_option maxHeartbeats 1000000 in
theorem new_no {w : World} {ky : ByteArray} {da : Option Addr} {dn dc : Nat} {pc tr wt : Int} (hd : dn ≤ 3000) (h : ¬ (1 ≤ pc ∧ pc ≤ 262144 ∧ fitsB tr wt = true)) :
    Calls Try.prog 15 #[.string ky, .slice da dn dc, .int .i64 pc, .int .i64 tr, .int .i64 wt] w fun e w' => e = .returned (.pointer none) ∧ w = w' := by
  have hdi : (dn : Int) ≤ 262144 := by omega
  by_cases h1 : pc < 1
  · clear h
    go_enter Try.func15, Try.ntmps15
    go_wp2_with fail
    go_ret
    exact ⟨rfl, rfl⟩
  · have h1i : 1 ≤ pc := by omega
    clear h1
    by_cases h2 : 262144 < pc
    · clear h
      go_enter Try.func15, Try.ntmps15
      go_wp2_with fail
      go_ret
      exact ⟨rfl, rfl⟩
    · have h2i : pc ≤ 262144 := by omega
      have hf : fitsB tr wt = false := by
        cases hb : fitsB tr wt with
        | false => rfl
        | true => exact absurd ⟨h1i, h2i, hb⟩ h
      have HF := Lib.hid (fun w => fits_any tr wt w)
      rw [hf] at HF
      clear h2 h hf
      go_enter Try.func15, Try.ntmps15
      go_wp2_with fail
      refine (HF.out _).mono ?_
      rintro e w2 ⟨rfl, rfl⟩
      go_wp2_with fail
      go_ret
      exact ⟨rfl, rfl⟩

set_option maxRecDepth 100000 in
set_option maxHeartbeats 2000000 in
theorem new_yes {w : World} {ky : ByteArray} {da : Option Addr} {dn dc : Nat} {xs : List Nat} {pc tr wt : Int} (hb : BytesAt w da dn dc xs) (hd : dn ≤ 3000) (h1 : 1 ≤ pc) (h2 : pc ≤ 262144) (hf : fitsB tr wt = true) :
    Calls Try.prog 15 #[.string ky, .slice da dn dc, .int .i64 pc, .int .i64 tr, .int .i64 wt] w fun e w' => ∃ (B : Nat) (da' : Option Addr) (dc' : Nat) (sz pt : Int), e = .returned (.pointer (some ⟨B, 0, none⟩)) ∧ w'.heap[B]? = some (.cells (upA ky da' dn dc' sz pt tr wt 0 0 false 0 0) 75 (0, 0)) ∧ w.heap.size ≤ B ∧ Below w.heap.size w w' := by
  have hdi : (dn : Int) ≤ 262144 := by omega
  have HF := Lib.hid (fun w => fits_any tr wt w)
  rw [hf] at HF
  have HBY := Lib.hid hb
  have hdn : (dn : Int) ≤ 3000 := by omega
  clear hb hf
  go_enter Try.func15, Try.ntmps15
  go_wp2_with fail
  refine (HF.out _).mono ?_
  rintro e w2 ⟨rfl, rfl⟩
  go_wp2_with fail
  refine (divided_any (dn : Int) 32 ⟨by omega, by omega⟩ ⟨by omega, by omega⟩ _).mono ?_
  rintro e w2 ⟨⟨z, rfl, hz0, hz1⟩, rfl⟩
  go_wp2_with fail
  refine (clone_own HBY.out).mono ?_
  rintro e w3 ⟨v, rfl, hown, hb3⟩
  obtain ⟨a', c', rfl⟩ : ∃ a' c', v = .slice a' dn c' := by
    rcases hown.2 with ⟨rfl, h0⟩ | ⟨g, cap, cur, rfl, _⟩
    · subst h0; exact ⟨_, _, rfl⟩
    · exact ⟨_, _, rfl⟩
  have HB3 := Lib.hid hb3
  clear hown hb3
  go_wp2_with fail
  have hm : 1 ≤ max pc z := by omega
  have hm2 : max pc z ≤ 3000000 := by omega
  refine (divided_any (dn : Int) (max pc z) ⟨by omega, by omega⟩ ⟨hm, hm2⟩ _).mono ?_
  rintro e w4 ⟨⟨z2, rfl, hy0, hy1⟩, rfl⟩
  clear hm hm2
  go_wp2_with fail
  refine (pacenew_any tr wt _).mono ?_
  rintro e w5 ⟨rfl, hb5⟩
  have hb6 := HB3.out.trans (hb5.mono HB3.out.size)
  have HG := Lib.hid (heap_alloc_new w5 (.cells (upA ky a' dn c' (max pc z) (max 1 z2) tr wt 0 0 false 0 0) 75))
  have HB6 := Lib.hid (hb6.alloc hb6.size (.cells (upA ky a' dn c' (max pc z) (max 1 z2) tr wt 0 0 false 0 0) 75))
  have HS := Lib.hid hb6.size
  clear hb5 hb6
  go_wp2_with fail
  go_ret
  exact ⟨w5.heap.size, a', c', max pc z, max 1 z2, rfl, HG.out, HS.out, HB6.out⟩

set_option maxRecDepth 100000 in
set_option maxHeartbeats 2000000 in
theorem lives17_any (w : World) :
    Calls Try.prog 13 #[] w fun e w' => e = .returned (.bool true) ∧ Below w.heap.size w w' := by
  obtain ⟨w1, hw1⟩ : ∃ w1, w1 = w.alloc (.cells #[.int .u8 97, .int .u8 98] 5 (2, 3)) := ⟨_, rfl⟩
  have hblk : w1.heap[w.heap.size]? = some (.cells #[.int .u8 97, .int .u8 98] 5 (2, 3)) := by
    rw [hw1]; show (w.heap.push _)[w.heap.size]? = _; simp
  have hb1 : Below w.heap.size w w1 := by rw [hw1]; exact (Below.refl _ _).alloc (Nat.le_refl _) _
  have hby : BytesAt w1 (some ⟨w.heap.size, 0, none⟩) 2 2 [97, 98] := by
    refine ⟨rfl, Nat.le_refl _, by decide, by omega, by omega, (fun e => by cases e), fun _ => ⟨w.heap.size, 0, rfl, (Array.getElem?_eq_some_iff.1 hblk).1, fun i hi => ?_⟩⟩
    rw [cell_of_row w1 _ _ _ _ (2, 3) hblk]
    match i, hi with
    | 0, _ => rfl
    | 1, _ => rfl
  have HN := Lib.hid (new_yes (ky := { data := #[107] }) (pc := 1) (tr := 2) (wt := 1) hby (by omega) (by omega) (by omega) (by decide))
  have HB1 := Lib.hid hb1
  rw [hw1] at HN HB1
  have HN := Lib.hid HN.out
  clear hby hblk hb1
  subst hw1
  have hcv : (convert 28 28 (.slice (some ⟨w.heap.size, 0, none⟩) 2 2)).run Try.prog (w.alloc (.cells #[.int .u8 97, .int .u8 98] 5)) = .ok (.slice (some ⟨w.heap.size, 0, none⟩) 2 2) (w.alloc (.cells #[.int .u8 97, .int .u8 98] 5 (2, 3))) := Lib.run_convert_bytes_const w _ _ _ 2 2 Try.underlying28 Try.underlying5
  go_enter Try.func13, Try.ntmps13
  go_wp2_with fail
  refine HN.out.mono ?_
  rintro e w2 ⟨B, da, dc, sz, pt, rfl, hg, hB, hb2⟩
  have HNX := Lib.hid (next_yes (now := 0) hg (Int.le_refl 0))
  have hle := HB1.out.size
  have HB2 := Lib.hid (HB1.out.trans (hb2.mono HB1.out.size))
  have HBB := Lib.hid (Nat.le_trans hle hB)
  clear hg hB hb2 hle hcv
  go_wp2_with fail
  refine HNX.out.mono ?_
  rintro e w3 ⟨rfl, hg3, ht3⟩
  have hb3 := ht3.old HB2.out HBB.out HB2.out.size
  have hlt := (Array.getElem?_eq_some_iff.1 hg3).1
  have hal : Below w3.heap.size w3 (w3.alloc (.cells #[.int .i64 7, .string { data := #[107] }, .slice none 0 0, .int .i64 0, .int .i64 0, .int .i64 0, .int .i64 0] 30)) := (Below.refl _ _).alloc (Nat.le_refl _) _
  have HST := Lib.hid (state_any ((hal.block B hlt).trans hg3))
  have HB3 := Lib.hid (hb3.alloc hb3.size (.cells #[.int .i64 7, .string { data := #[107] }, .slice none 0 0, .int .i64 0, .int .i64 0, .int .i64 0, .int .i64 0] 30))
  clear hg3 ht3 hb3 hlt hal
  go_wp2_with fail
  refine HST.out.mono ?_
  rintro e w4 ⟨rfl, rfl⟩
  go_wp2_with fail
  go_ret
  exact ⟨rfl, HB3.out⟩
end Go.Proofs.Ytodoklnohedolaa
end PkUC7_2
section PkUC7_3
/- The law UploadPaces, walked. -/
namespace Go.Proofs.Ytodoklnohedolaa
open Go.RowKit
set_option linter.unusedVariables false

def fewB (dn : Nat) (ky : ByteArray) : Bool := decide (dn ≤ 3000) && decide (ky.size ≤ 100)
set_option maxRecDepth 100000 in
theorem few17_any {w : World} {ky : ByteArray} {da : Option Addr} {dn dc : Nat} {pc tr wt : Int} (hk : ky.size ≤ 140737488355328) (hd : dn ≤ 140737488355328) :
    Calls Try.prog 14 #[.agg #[.string ky, .slice da dn dc, .int .i64 pc, .int .i64 tr, .int .i64 wt]] w fun e w' => e = .returned (.bool (fewB dn ky)) ∧ Below w.heap.size w w' := by
  have HB := Lib.hid ((Below.refl w.heap.size w).alloc (Nat.le_refl _) (.cells #[.string ky, .slice da dn dc, .int .i64 pc, .int .i64 tr, .int .i64 wt] 41))
  by_cases h1 : dn ≤ 3000
  · have h1i : (dn : Int) ≤ 3000 := by omega
    by_cases h2 : ky.size ≤ 100
    · have HF := Lib.hid (show fewB dn ky = true by unfold fewB; rw [decide_eq_true h1, decide_eq_true h2]; rfl)
      have h2i : (ky.size : Int) ≤ 100 := by omega
      clear h1 h2
      go_enter Try.func14, Try.ntmps14
      go_wp2_with fail
      go_ret
      rw [HF.out]; exact ⟨rfl, HB.out⟩
    · have HF := Lib.hid (show fewB dn ky = false by unfold fewB; rw [decide_eq_false h2, Bool.and_false])
      have h2i : (100 : Int) < (ky.size : Int) := by omega
      clear h1 h2
      go_enter Try.func14, Try.ntmps14
      go_wp2_with fail
      go_ret
      rw [HF.out]; exact ⟨by simp; omega, HB.out⟩
  · have HF := Lib.hid (show fewB dn ky = false by unfold fewB; rw [decide_eq_false h1]; rfl)
    have h1i : (3000 : Int) < (dn : Int) := by omega
    clear h1
    go_enter Try.func14, Try.ntmps14
    go_wp2_with fail
    go_ret
    rw [HF.out]; exact ⟨rfl, HB.out⟩
/-- the series --/
theorem pow_step (wt : Int) (f : Nat) : wt * 2 ^ (f + 1) = 2 * (wt * 2 ^ f) := by rw [Int.pow_succ, ← Int.mul_assoc, Int.mul_comm]
theorem pow_in {wt : Int} (h0 : 0 ≤ wt) (h1 : wt ≤ 20) : ∀ (f n : Nat), f ≤ n → wt ≤ wt * 2 ^ f ∧ wt * 2 ^ f ≤ wt * 2 ^ n := by
  have hstep : ∀ f : Nat, 0 ≤ wt * 2 ^ f := fun f => Int.mul_nonneg h0 (Int.pow_nonneg (by omega))
  have hup : ∀ f n : Nat, f ≤ n → wt * 2 ^ f ≤ wt * 2 ^ n := by
    intro f n h
    induction h with
    | refl => exact Int.le_refl _
    | step _ ih => rw [pow_step]; have := hstep f; omega
  intro f n h
  refine ⟨?_, hup f n h⟩
  have := hup 0 f (Nat.zero_le _)
  simpa using this
theorem pow_8 {wt : Int} (h0 : 0 ≤ wt) (h1 : wt ≤ 20) {f : Nat} (h : f ≤ 8) : wt ≤ wt * 2 ^ f ∧ wt * 2 ^ f ≤ 5120 := by
  have := pow_in h0 h1 f 8 h
  exact ⟨this.1, by have := this.2; omega⟩
theorem pow_7 {wt : Int} (h0 : 0 ≤ wt) (h1 : wt ≤ 20) {f : Nat} (h : f ≤ 7) : wt ≤ wt * 2 ^ f ∧ wt * 2 ^ f ≤ 2560 := by
  have := pow_in h0 h1 f 7 h
  exact ⟨this.1, by have := this.2; omega⟩
theorem Below.setRow_new {B : Nat} {a w : World} (h : Below B a w) {g : Nat} (hg : B ≤ g) (cs : Array Value) : Below B a (w.setRow g cs) :=
  h.trans ⟨rfl, rfl, rfl, by simp, fun k hk => setRow_other w g k cs (by omega)⟩
/-- what was told last: a call, or none -/
def callA (ky : ByteArray) : Bool → Array Value
  | true => #[.int .i64 7, .string ky, .slice none 0 0, .int .i64 0, .int .i64 0, .int .i64 0, .int .i64 0]
  | false => #[.int .i64 0, .string { data := #[] }, .slice none 0 0, .int .i64 0, .int .i64 0, .int .i64 0, .int .i64 0]
/-- how it stands: failed so often; the call was told; it may be over -/
def Stands (w : World) (B : Nat) (ky : ByteArray) (da' : Option Addr) (dn dc' : Nat) (sz pt tr wt : Int) (f : Nat) (told : Bool) : Prop :=
  ((f : Int) < tr ∧ w.heap[B]? = some (.cells (upA ky da' dn dc' sz pt tr wt f (wt * 2 ^ f - wt) told 0 0) 75 (0, 0))) ∨ (told = false ∧ (f : Int) = tr ∧ ∃ rd, w.heap[B]? = some (.cells (upA ky da' dn dc' sz pt tr wt f rd false 5 2) 75 (0, 0)))

set_option maxRecDepth 100000 in
set_option maxHeartbeats 8000000 in
theorem upload_paces (ky : ByteArray) (da : Option Addr) (dn dc : Nat) (xs : List Nat) (pc tr wt : Int) (w : World) (hk : ky.size ≤ 140737488355328) (hby : BytesAt w da dn dc xs) :
    Calls Try.prog 7 #[.agg #[.string ky, .slice da dn dc, .int .i64 pc, .int .i64 tr, .int .i64 wt]] w fun e w' => e = .returned (.bool true) ∧ Below w.heap.size w w' := by
  obtain ⟨w1, hw1⟩ : ∃ w1, w1 = w.alloc (.cells #[.string ky, .slice da dn dc, .int .i64 pc, .int .i64 tr, .int .i64 wt] 41) := ⟨_, rfl⟩
  have s1 : w.heap.size < w1.heap.size := by rw [hw1]; exact (Array.getElem?_eq_some_iff.1 (heap_alloc_new w _)).1
  have hb1 : Below w.heap.size w w1 := by rw [hw1]; exact (Below.refl _ _).alloc (Nat.le_refl _) _
  have hbox : ∀ (wr : World), Below w1.heap.size w1 wr → wr.cell? ⟨w.heap.size, 0, none⟩ = some (.string ky) ∧ wr.cell? ⟨w.heap.size, 1, none⟩ = some (.slice da dn dc) ∧ wr.cell? ⟨w.heap.size, 2, none⟩ = some (.int .i64 pc) ∧ wr.cell? ⟨w.heap.size, 3, none⟩ = some (.int .i64 tr) ∧ wr.cell? ⟨w.heap.size, 4, none⟩ = some (.int .i64 wt) := by
    intro wr hb
    rw [hw1] at hb
    exact ⟨box_cell hb rfl, box_cell hb rfl, box_cell hb rfl, box_cell hb rfl, box_cell hb rfl⟩
  have hdm : dn ≤ 140737488355328 := by have := hby.reach; omega
  have HBY := Lib.hid (hby.kept hb1)
  have HBOX := Lib.hid hbox
  have HB1 := Lib.hid hb1
  have HW1 := Lib.hid hw1
  clear hby hb1 hbox hw1
  cases hfw : fewB dn ky with
  | false =>
    have HFW := Lib.hid hfw
    clear hfw
    go_enter Try.func7, Try.ntmps7
    go_wp2_with fail
    rw [← HW1.out]
    refine (lives17_any w1).mono ?_
    rintro e w2 ⟨rfl, hb2⟩
    obtain ⟨b0, b1, b2, b3, b4⟩ := HBOX.out w2 hb2
    have HB2 := Lib.hid hb2
    clear hb2
    go_wp2_with fail
    refine (few17_any hk hdm).mono ?_
    rw [HFW.out]
    rintro e w3 ⟨rfl, hb3⟩
    have HB3 := Lib.hid (HB2.out.trans (hb3.mono HB2.out.size))
    clear hb3
    go_wp2_with fail
    refine (lives17_any w3).mono ?_
    rintro e w4 ⟨rfl, hb4⟩
    have HB4 := Lib.hid ((HB1.out.trans (HB3.out.mono HB1.out.size)).trans (hb4.mono (Nat.le_trans HB1.out.size HB3.out.size)))
    clear hb4
    go_wp2_with fail
    go_ret
    exact ⟨rfl, HB4.out⟩
  | true =>
    have HFW := Lib.hid hfw
    have hdn : dn ≤ 3000 := by unfold fewB at hfw; rw [Bool.and_eq_true, decide_eq_true_eq] at hfw; exact hfw.1
    clear hfw
    by_cases hw20 : 20 < wt
    · go_enter Try.func7, Try.ntmps7
      go_wp2_with fail
      rw [← HW1.out]
      refine (lives17_any w1).mono ?_
      rintro e w2 ⟨rfl, hb2⟩
      obtain ⟨b0, b1, b2, b3, b4⟩ := HBOX.out w2 hb2
      have HB2 := Lib.hid hb2
      clear hb2
      go_wp2_with fail
      refine (few17_any hk hdm).mono ?_
      rw [HFW.out]
      rintro e w3 ⟨rfl, hb3⟩
      have hb3' := HB2.out.trans (hb3.mono HB2.out.size)
      clear b0 b1 b2 b3 b4
      obtain ⟨b0, b1, b2, b3, b4⟩ := HBOX.out w3 hb3'
      have HB3 := Lib.hid hb3'
      clear hb3 hb3'
      go_wp2_with fail
      refine (lives17_any w3).mono ?_
      rintro e w4 ⟨rfl, hb4⟩
      have HB4 := Lib.hid ((HB1.out.trans (HB3.out.mono HB1.out.size)).trans (hb4.mono (Nat.le_trans HB1.out.size HB3.out.size)))
      clear hb4
      go_wp2_with fail
      go_ret
      exact ⟨rfl, HB4.out⟩
    · have hw20i : wt ≤ 20 := by omega
      clear hw20
      by_cases hmk : 1 ≤ pc ∧ pc ≤ 262144 ∧ fitsB tr wt = true
      case neg =>
        have HNO := Lib.hid (fun w' => new_no (w := w') (ky := ky) (da := da) (dc := dc) hdn hmk)
        clear hmk
        go_enter Try.func7, Try.ntmps7
        go_wp2_with fail
        rw [← HW1.out]
        refine (lives17_any w1).mono ?_
        rintro e w2 ⟨rfl, hb2⟩
        obtain ⟨b0, b1, b2, b3, b4⟩ := HBOX.out w2 hb2
        have HB2 := Lib.hid hb2
        clear hb2
        go_wp2_with fail
        refine (few17_any hk hdm).mono ?_
        rw [HFW.out]
        rintro e w3 ⟨rfl, hb3⟩
        have hb3' := HB2.out.trans (hb3.mono HB2.out.size)
        clear b0 b1 b2 b3 b4
        obtain ⟨b0, b1, b2, b3, b4⟩ := HBOX.out w3 hb3'
        have HB3 := Lib.hid hb3'
        clear hb3 hb3'
        go_wp2_with fail
        refine (HNO.out w3).mono ?_
        rintro e w4 ⟨rfl, rfl⟩
        have HB4 := Lib.hid (HB1.out.trans (HB3.out.mono HB1.out.size))
        go_wp2_with fail
        go_ret
        exact ⟨rfl, HB4.out⟩
      case pos =>
        obtain ⟨hp1, hp2, hfit⟩ := hmk
        obtain ⟨ht1, ht8, hw0, _⟩ : 1 ≤ tr ∧ tr ≤ 8 ∧ 0 ≤ wt ∧ wt ≤ 1099511627776 := by unfold fitsB at hfit; exact of_decide_eq_true hfit
        have HFIT := Lib.hid hfit
        clear hfit
        go_enter Try.func7, Try.ntmps7
        go_wp2_with fail
        rw [← HW1.out]
        refine (lives17_any w1).mono ?_
        rintro e w2 ⟨rfl, hb2⟩
        obtain ⟨b0, b1, b2, b3, b4⟩ := HBOX.out w2 hb2
        have HB2 := Lib.hid hb2
        clear hb2
        go_wp2_with fail
        refine (few17_any hk hdm).mono ?_
        rw [HFW.out]
        rintro e w3 ⟨rfl, hb3⟩
        have hb3' := HB2.out.trans (hb3.mono HB2.out.size)
        clear b0 b1 b2 b3 b4
        obtain ⟨b0, b1, b2, b3, b4⟩ := HBOX.out w3 hb3'
        have HB3 := Lib.hid hb3'
        have HBY3 := Lib.hid (HBY.out.kept hb3')
        clear hb3 hb3'
        go_wp2_with fail
        refine (new_yes HBY3.out hdn hp1 hp2 HFIT.out).mono ?_
        rintro e w4 ⟨B, da', dc', sz, pt, rfl, hg, hB, hb4⟩
        have hB1 : w1.heap.size ≤ B := Nat.le_trans HB3.out.size hB
        have hb4' := HB3.out.trans (hb4.mono HB3.out.size)
        clear b0 b1 b2 b3 b4
        obtain ⟨b0, b1, b2, b3, b4⟩ := HBOX.out w4 hb4'
        have HB4 := Lib.hid hb4'
        have HG := Lib.hid hg
        have HBB := Lib.hid hB1
        clear hg hB hb4 hb4' hB1
        go_wp2_with fail
        go_region
        go_wp2_with fail
        go_loopw [4, 5, 6, 38] (fun s4 s5 s6 s38 wr => ∃ (i f : Nat) (due q : Int), i ≤ 3000 ∧ s38 = .int .i64 (i : Int) ∧ s6 = .int .i64 (f : Int) ∧ s4 = .int .i64 due ∧ s5 = .int .i64 q ∧ (f : Int) ≤ tr ∧ Hid (Below w1.heap.size w1 wr) ∧ Hid (Stands wr B ky da' dn dc' sz pt tr wt f false) ∧ Hid ((f : Int) < tr → q = wt * 2 ^ f ∧ due = q - wt ∧ (i : Int) ≤ due)) (fun _ _ _ s38 _ => 3000 - (intOf s38).toNat)
        case atStart => exact ⟨0, 0, 0, wt, by omega, rfl, rfl, rfl, rfl, by omega, Lib.hid HB4.out.drew, Lib.hid (.inl ⟨by omega, by rw [show wt * 2 ^ 0 - wt = 0 by rw [Int.pow_zero, Int.mul_one, Int.sub_self]]; exact HG.out⟩), Lib.hid (fun _ => ⟨by rw [Int.pow_zero, Int.mul_one], by omega, by omega⟩)⟩
        case round =>
          clear b0 b1 b2 b3 b4
          obtain ⟨i, f, due, q, hi, rfl, rfl, rfl, rfl, hft, HBW, HST, HQ⟩ := hrel
          rename World => wr
          by_cases hi3 : i < 3000
          · have hi3i : (i : Int) < 3000 := by omega
            rcases HST.out with ⟨hlt, hg⟩ | ⟨_, hf2, rd, hg⟩
            case inr =>
              have zt : ((f : Int) == tr) = true := by rw [beq_iff_eq]; exact hf2
              have HSA := Lib.hid (state_any hg)
              obtain ⟨b0, b1, b2, b3, b4⟩ := HBOX.out wr HBW.out
              have HBF := Lib.hid (HB1.out.trans (HBW.out.mono HB1.out.size))
              have z20 : ((2 : Int) != 0) = true := by decide
              clear hg hf2
              go_wp2_with fail
              refine HSA.out.mono ?_
              rintro e w6 ⟨rfl, rfl⟩
              go_wp2_with fail
              refine HSA.out.mono ?_
              rintro e w7 ⟨rfl, rfl⟩
              go_wp2_with fail
              go_ret
              exact ⟨by simp, HBF.out⟩
            case inl =>
              obtain ⟨hq, hd, hid⟩ := HQ.out hlt
              have hp := pow_7 hw0 hw20i (f := f) (by omega)
              rw [← hq] at hp
              obtain ⟨hp1, hp2⟩ := hp
              have HSA := Lib.hid (state_any hg)
              have z00 : ((0 : Int) != 0) = false := by decide
              have HQE := Lib.hid hq
              by_cases hnow : due ≤ (i : Int)
              case neg =>
                have HN := Lib.hid (next_wait (now := (i : Int)) hg (by rw [← hq]; omega))
                have hidlt : (i : Int) + 1 ≤ due := by omega
                have HD := Lib.hid (And.intro hd hidlt)
                clear hg hq hd hidlt hnow
                go_wp2_with fail
                refine HSA.out.mono ?_
                rintro e w6 ⟨rfl, rfl⟩
                go_wp2_with fail
                refine HN.out.mono ?_
                rintro e w7 ⟨rfl, hg7, ht7⟩
                have hb7 := ht7.old HBW.out HBB.out HBW.out.size
                have hal : Below w7.heap.size w7 (w7.alloc (.cells #[.int .i64 0, .string { data := #[] }, .slice none 0 0, .int .i64 0, .int .i64 0, .int .i64 0, .int .i64 0] 30)) := (Below.refl _ _).alloc (Nat.le_refl _) _
                have HB8 := Lib.hid (hb7.alloc hb7.size (.cells #[.int .i64 0, .string { data := #[] }, .slice none 0 0, .int .i64 0, .int .i64 0, .int .i64 0, .int .i64 0] 30))
                have HS8 := Lib.hid (show Stands (w7.alloc (.cells #[.int .i64 0, .string { data := #[] }, .slice none 0 0, .int .i64 0, .int .i64 0, .int .i64 0, .int .i64 0] 30)) B ky da' dn dc' sz pt tr wt f false from .inl ⟨hlt, (hal.block B (Array.getElem?_eq_some_iff.1 hg7).1).trans hg7⟩)
                clear hg7 ht7 hb7 hal
                go_wp2_with fail
                go_loopw [4, 5, 6, 9] (fun s4 s5 s6 s9 wq => s4 = .int .i64 due ∧ s5 = .int .i64 q ∧ s6 = .int .i64 (f : Int) ∧ s9 = .bool false ∧ wq = w7.alloc (.cells #[.int .i64 0, .string { data := #[] }, .slice none 0 0, .int .i64 0, .int .i64 0, .int .i64 0, .int .i64 0] 30)) (fun _ _ _ _ _ => 0)
                case atStart => exact ⟨rfl, rfl, rfl, rfl, rfl⟩
                case round =>
                  obtain ⟨rfl, rfl, rfl, rfl, rfl⟩ := hrel
                  go_wp2_with fail
                  go_roundw
                  case rel => exact ⟨i + 1, f, due, q, by omega, by go_num, rfl, rfl, rfl, hft, HB8, HS8, Lib.hid (fun _ => ⟨HQE.out, HD.out.1, by have := HD.out.2; omega⟩)⟩
                  case measure => simp [intOf]; omega
              case pos =>
                have hdi : due = (i : Int) := by omega
                have HN := Lib.hid (next_yes (now := (i : Int)) hg (by rw [← hq]; omega))
                have HD := Lib.hid (And.intro hd hdi)
                clear hg hq hd hdi hnow
                go_wp2_with fail
                refine HSA.out.mono ?_
                rintro e w6 ⟨rfl, rfl⟩
                go_wp2_with fail
                refine HN.out.mono ?_
                rintro e w7 ⟨rfl, hg7, ht7⟩
                have hb7 := ht7.old HBW.out HBB.out HBW.out.size
                obtain ⟨w8, hw8⟩ : ∃ w8, w8 = w7.alloc (.cells #[.int .i64 7, .string ky, .slice none 0 0, .int .i64 0, .int .i64 0, .int .i64 0, .int .i64 0] 30) := ⟨_, rfl⟩
                obtain ⟨cb, hcb⟩ : ∃ cb, cb = w7.heap.size := ⟨_, rfl⟩
                have hal : Below w7.heap.size w7 w8 := by rw [hw8]; exact (Below.refl _ _).alloc (Nat.le_refl _) _
                have hg8 : w8.heap[B]? = some (.cells (upA ky da' dn dc' sz pt tr wt (f : Int) (wt * 2 ^ f - wt) true 0 0) 75 (0, 0)) := (hal.block B (Array.getElem?_eq_some_iff.1 hg7).1).trans hg7
                have hc8 : w8.heap[cb]? = some (.cells (callA ky true) 30 (0, 0)) := by rw [hw8, hcb]; exact heap_alloc_new w7 _
                have HCN := Lib.hid (show cb ≠ B ∧ w1.heap.size ≤ cb from ⟨by have := (Array.getElem?_eq_some_iff.1 hg7).1; omega, by rw [hcb]; exact hb7.size⟩)
                have HB8 := Lib.hid (hb7.trans (hal.mono hb7.size))
                have HS8 := Lib.hid (show Stands w8 B ky da' dn dc' sz pt tr wt f true from .inl ⟨hlt, hg8⟩)
                have HC8 := Lib.hid hc8
                have HW8 := Lib.hid hw8
                have HCB := Lib.hid hcb
                clear hg7 ht7 hb7 hal hg8 hc8 hw8 hcb
                go_wp2_with fail
                rw [← HW8.out, ← HCB.out]
                go_loopw [4, 5, 6, 9] (fun s4 s5 s6 s9 wq => ∃ (g : Nat) (du p : Int) (b : Bool), s6 = .int .i64 (g : Int) ∧ s4 = .int .i64 du ∧ s5 = .int .i64 p ∧ s9 = .bool b ∧ (g : Int) ≤ tr ∧ Hid (Below w1.heap.size w1 wq) ∧ Hid (wq.heap[cb]? = some (.cells (callA ky b) 30 (0, 0))) ∧ Hid (Stands wq B ky da' dn dc' sz pt tr wt g b) ∧ Hid ((g : Int) < tr → p = wt * 2 ^ g ∧ du = p - wt ∧ (b = true → du = (i : Int)) ∧ (b = false → (i : Int) + 1 ≤ du)) ∧ Hid (b = true → (g : Int) < tr)) (fun _ _ s6 _ _ => 9 - (intOf s6).toNat)
                case atStart => exact ⟨f, due, q, true, rfl, rfl, rfl, rfl, hft, HB8, HC8, HS8, Lib.hid (fun _ => ⟨HQE.out, HD.out.1, fun _ => HD.out.2, fun h => by cases h⟩), Lib.hid (fun _ => hlt)⟩
                case round =>
                  clear hi3i z00
                  obtain ⟨g, du, p, b, rfl, rfl, rfl, rfl, hgt, HBQ, HCQ, HSQ, HQQ, HBT⟩ := hrel
                  rename World => wq
                  cases b with
                  | false =>
                    go_wp2_with fail
                    go_roundw
                    case rel => exact ⟨i + 1, g, du, p, by omega, by go_num, rfl, rfl, rfl, hgt, HBQ, HSQ, Lib.hid (fun h => ⟨(HQQ.out h).1, (HQQ.out h).2.1, by have := (HQQ.out h).2.2.2 rfl; omega⟩)⟩
                    case measure => simp [intOf]; omega
                  | true =>
                    have hlg := HBT.out rfl
                    rcases HSQ.out with ⟨_, hgq⟩ | ⟨hno, _⟩
                    case inr => cases hno
                    obtain ⟨hpq, hdp, hdui, _⟩ := HQQ.out hlg
                    have hdu := hdui rfl
                    have hpp := pow_7 hw0 hw20i (f := g) (by omega)
                    rw [← hpq] at hpp
                    obtain ⟨hpp1, hpp2⟩ := hpp
                    have ck := cell_blk HCQ.out (i := 0) (u := .int .i64 7) rfl
                    have zn : ((i : Int) != du) = false := by rw [hdu]; simp
                    have z77 : ((7 : Int) != 7) = false := by decide
                    have hcblt := (Array.getElem?_eq_some_iff.1 HCQ.out).1
                    have HPQ := Lib.hid (And.intro hpq (And.intro hdp hdu))
                    have hi3i : (i : Int) < 3000 := by omega
                    have hg7 : g ≤ 7 := by omega
                    by_cases hmore : (g : Int) + 1 < tr
                    · have HTK := Lib.hid (take_more (now := (i : Int)) hgq (by omega) ⟨hw0, by omega⟩ ⟨by omega, by omega⟩ hmore)
                      clear hgq hpq hdp hdui
                      go_wp2_with fail
                      refine HTK.out.mono ?_
                      rintro e w9 ⟨⟨vv, rfl⟩, hg9, ht9⟩
                      have hg9' : w9.heap[B]? = some (.cells (upA ky da' dn dc' sz pt tr wt ((g + 1 : Nat) : Int) (wt * 2 ^ (g + 1) - wt) false 0 0) 75 (0, 0)) := by
                        rw [hg9, pow_step, show (i : Int) + wt * 2 ^ g = 2 * (wt * 2 ^ g) - wt from by have := HPQ.out; omega]; rfl
                      have hc9 := (ht9.block cb hcblt HCN.out.1).trans HCQ.out
                      have hb9 := ht9.old HBQ.out HBB.out HBQ.out.size
                      have hcl9 := (Array.getElem?_eq_some_iff.1 hc9).1
                      by_cases hz : wt * 2 ^ (g + 1) - wt ≤ (i : Int)
                      · have HNX := Lib.hid (next_yes (now := (i : Int)) hg9' hz)
                        have HZ := Lib.hid hz
                        clear hg9 hg9' ht9 hz
                        go_wp2_with fail
                        refine HNX.out.mono ?_
                        rintro e wA ⟨rfl, hgA, htA⟩
                        have hcA := (htA.block cb hcl9 HCN.out.1).trans hc9
                        have HCA := Lib.hid hcA
                        have HBA := Lib.hid (Below.setRow_new (htA.old hb9 HBB.out hb9.size) HCN.out.2 #[.int .i64 7, .string ky, .slice none 0 0, .int .i64 0, .int .i64 0, .int .i64 0, .int .i64 0])
                        have HSA2 := Lib.hid (show Stands (wA.setRow cb #[.int .i64 7, .string ky, .slice none 0 0, .int .i64 0, .int .i64 0, .int .i64 0, .int .i64 0]) B ky da' dn dc' sz pt tr wt (g + 1) true from .inl ⟨by omega, (setRow_other wA cb B #[.int .i64 7, .string ky, .slice none 0 0, .int .i64 0, .int .i64 0, .int .i64 0, .int .i64 0] (fun e => HCN.out.1 e.symm)).trans hgA⟩)
                        have HCC := Lib.hid (show (wA.setRow cb #[.int .i64 7, .string ky, .slice none 0 0, .int .i64 0, .int .i64 0, .int .i64 0, .int .i64 0]).heap[cb]? = some (.cells (callA ky true) 30 (0, 0)) from setRow_heap wA cb _ _ _ (0, 0) hcA)
                        clear hgA htA hcA
                        go_wp2_with (refine wpList_store_row rfl 30 (.tmp 8) (.tmp 74) rfl cb #[.int .i64 7, .string ky, .slice none 0 0, .int .i64 0, .int .i64 0, .int .i64 0, .int .i64 0] rfl rfl 30 _ HCA.out (by kernel_rfl) (by rfl) (by simp [Value.oneCell']) ?_)
                        go_roundw
                        case rel => exact ⟨g + 1, _, _, true, by go_num, rfl, rfl, rfl, by omega, HBA, HCC, HSA2, Lib.hid (fun _ => ⟨by rw [pow_step]; have := HPQ.out.1; omega, by have := HPQ.out; omega, fun _ => by have h1 := HPQ.out; have h2 := HZ.out; rw [pow_step] at h2; omega, fun h => by cases h⟩), Lib.hid (fun _ => by omega)⟩
                        case measure => simp [intOf]; omega
                      · have HNX := Lib.hid (next_wait (now := (i : Int)) hg9' (by omega))
                        have HZ := Lib.hid hz
                        clear hg9 hg9' ht9 hz
                        go_wp2_with fail
                        refine HNX.out.mono ?_
                        rintro e wA ⟨rfl, hgA, htA⟩
                        have hcA := (htA.block cb hcl9 HCN.out.1).trans hc9
                        have HCA := Lib.hid hcA
                        have HBA := Lib.hid (Below.setRow_new (htA.old hb9 HBB.out hb9.size) HCN.out.2 #[.int .i64 0, .string { data := #[] }, .slice none 0 0, .int .i64 0, .int .i64 0, .int .i64 0, .int .i64 0])
                        have HSA2 := Lib.hid (show Stands (wA.setRow cb #[.int .i64 0, .string { data := #[] }, .slice none 0 0, .int .i64 0, .int .i64 0, .int .i64 0, .int .i64 0]) B ky da' dn dc' sz pt tr wt (g + 1) false from .inl ⟨by omega, (setRow_other wA cb B #[.int .i64 0, .string { data := #[] }, .slice none 0 0, .int .i64 0, .int .i64 0, .int .i64 0, .int .i64 0] (fun e => HCN.out.1 e.symm)).trans hgA⟩)
                        have HCC := Lib.hid (show (wA.setRow cb #[.int .i64 0, .string { data := #[] }, .slice none 0 0, .int .i64 0, .int .i64 0, .int .i64 0, .int .i64 0]).heap[cb]? = some (.cells (callA ky false) 30 (0, 0)) from setRow_heap wA cb _ _ _ (0, 0) hcA)
                        clear hgA htA hcA
                        go_wp2_with (refine wpList_store_row rfl 30 (.tmp 8) (.tmp 74) rfl cb #[.int .i64 0, .string { data := #[] }, .slice none 0 0, .int .i64 0, .int .i64 0, .int .i64 0, .int .i64 0] rfl rfl 30 _ HCA.out (by kernel_rfl) (by rfl) (by simp [Value.oneCell']) ?_)
                        go_roundw
                        case rel => exact ⟨g + 1, _, _, false, by go_num, rfl, rfl, rfl, by omega, HBA, HCC, HSA2, Lib.hid (fun _ => ⟨by rw [pow_step]; have := HPQ.out.1; omega, by have := HPQ.out; omega, (fun h => by cases h), fun _ => by have h1 := HPQ.out; have h2 := HZ.out; rw [pow_step] at h2; omega⟩), Lib.hid (fun h => by cases h)⟩
                        case measure => simp [intOf]; omega
                    · have htr : ((g + 1 : Nat) : Int) = tr := by omega
                      have HTK := Lib.hid (take_last (now := (i : Int)) hgq (by omega) (by omega))
                      clear hgq hpq hdp hdui hmore
                      go_wp2_with fail
                      refine HTK.out.mono ?_
                      rintro e w9 ⟨⟨vv, rfl⟩, hg9, ht9⟩
                      have hc9 := (ht9.block cb hcblt HCN.out.1).trans HCQ.out
                      have hb9 := ht9.old HBQ.out HBB.out HBQ.out.size
                      have hcl9 := (Array.getElem?_eq_some_iff.1 hc9).1
                      have HNX := Lib.hid (next_over (now := (i : Int)) hg9)
                      clear hg9 ht9
                      go_wp2_with fail
                      refine HNX.out.mono ?_
                      rintro e wA ⟨rfl, hgA, htA⟩
                      have hcA := (htA.block cb hcl9 HCN.out.1).trans hc9
                      have HCA := Lib.hid hcA
                      have HBA := Lib.hid (Below.setRow_new (htA.old hb9 HBB.out hb9.size) HCN.out.2 #[.int .i64 0, .string { data := #[] }, .slice none 0 0, .int .i64 0, .int .i64 0, .int .i64 0, .int .i64 0])
                      have HSA2 := Lib.hid (show Stands (wA.setRow cb #[.int .i64 0, .string { data := #[] }, .slice none 0 0, .int .i64 0, .int .i64 0, .int .i64 0, .int .i64 0]) B ky da' dn dc' sz pt tr wt (g + 1) false from .inr ⟨rfl, htr, _, (setRow_other wA cb B #[.int .i64 0, .string { data := #[] }, .slice none 0 0, .int .i64 0, .int .i64 0, .int .i64 0, .int .i64 0] (fun e => HCN.out.1 e.symm)).trans hgA⟩)
                      have HCC := Lib.hid (show (wA.setRow cb #[.int .i64 0, .string { data := #[] }, .slice none 0 0, .int .i64 0, .int .i64 0, .int .i64 0, .int .i64 0]).heap[cb]? = some (.cells (callA ky false) 30 (0, 0)) from setRow_heap wA cb _ _ _ (0, 0) hcA)
                      clear hgA htA hcA
                      go_wp2_with (refine wpList_store_row rfl 30 (.tmp 8) (.tmp 74) rfl cb #[.int .i64 0, .string { data := #[] }, .slice none 0 0, .int .i64 0, .int .i64 0, .int .i64 0, .int .i64 0] rfl rfl 30 _ HCA.out (by kernel_rfl) (by rfl) (by simp [Value.oneCell']) ?_)
                      go_roundw
                      case rel => exact ⟨g + 1, _, _, false, by go_num, rfl, rfl, rfl, by omega, HBA, HCC, HSA2, Lib.hid (fun h => absurd h (by omega)), Lib.hid (fun h => by cases h)⟩
                      case measure => simp [intOf]; omega
          · obtain rfl : i = 3000 := by omega
            rcases HST.out with ⟨hlt, hg⟩ | ⟨_, hf2, rd, hg⟩
            case inl =>
              obtain ⟨hq, hd, hid⟩ := HQ.out hlt
              have hp := pow_7 hw0 hw20i (f := f) (by omega)
              rw [← hq] at hp
              omega
            case inr =>
              have zt : ((f : Int) == tr) = true := by rw [beq_iff_eq]; exact hf2
              have HSA := Lib.hid (state_any hg)
              obtain ⟨b0, b1, b2, b3, b4⟩ := HBOX.out wr HBW.out
              have HBF := Lib.hid (HB1.out.trans (HBW.out.mono HB1.out.size))
              have z20 : ((2 : Int) != 0) = true := by decide
              clear hg hf2
              clear hi3
              go_wp2_with fail
              refine HSA.out.mono ?_
              rintro e w7 ⟨rfl, rfl⟩
              go_wp2_with fail
              go_ret
              exact ⟨by simp, HBF.out⟩
end Go.Proofs.Ytodoklnohedolaa
end PkUC7_3
section PkUC7_4
/- The law UploadDone, walked. Written by genudone.py. -/
namespace Go.Proofs.Ytodoklnohedolaa
open Go.RowKit
set_option linter.unusedVariables false

/-- the fates, wherever they lie -/
theorem fates_at {w : World} {fa : Option Addr} {fn fc : Nat} {zs : List Int} (h : IsRow .i64 8 w fa fn fc zs) {w' : World} (hb : Below w.heap.size w w') : ∀ i, i < fn → ∃ b off f, fa = some ⟨b, off, none⟩ ∧ w'.cell? ⟨b, off + i, none⟩ = some (.int .i64 f) := by
  intro i hi
  rcases h with ⟨_, rfl, _⟩ | ⟨x, rfl, hl, hm, hz, hcell, _, _⟩
  · omega
  · obtain ⟨b, off, spot⟩ := x
    have hc := hcell 0 (by omega)
    have hspot : spot = none := by simpa [Addr.add] using World.cell?_spot hc
    subst hspot
    have hlt : b < w.heap.size := by have := World.block_lt_of_cell? w _ hc; simpa [Addr.add] using this
    have h1 := hcell i (by omega)
    have h4 : (⟨b, off, none⟩ : Addr).add i = ⟨b, off + i, none⟩ := by unfold Addr.add; split <;> simp_all
    rw [h4] at h1
    exact ⟨b, off, _, rfl, (hb.cell (p := ⟨b, off + i, none⟩) hlt).trans h1⟩
/-- an upload that is new, over a new store -/
theorem runW_new {w1 w4 : World} {B : Nat} {ky : ByteArray} {da' : Option Addr} {dn dc' : Nat} {xs : List Nat} {s P T W : Nat} (hg : UAt w4 B ⟨ky, da', dn, dc', (s : Int), (P : Int), 1, (T : Int), (W : Int), 0, 0, false, 0, 0, false, false, 0, 0⟩) (ho : ∀ b off x, da' = some ⟨b, off, x⟩ → b < w4.heap.size) (hb : BytesAt w4 da' dn dc' xs) (hB : w1.heap.size ≤ B) (hbe : Below w1.heap.size w1 w4) (hP : 1 ≤ P) (hT : 1 ≤ T) :
    RunW w1 w1.heap.size B w4.heap.size w4.heap.size ky da' dn dc' s P T W xs 0 0 dstoN ⟨ky, da', dn, dc', (s : Int), (P : Int), 1, (T : Int), (W : Int), 0, 0, false, 0, 0, false, false, 0, 0⟩ (w4.alloc (.cells #[.slice none 0 0, .slice none 0 0, .int .i64 0, .int .i64 0, .int .i64 0] 50)) := by
  have hal : Below w4.heap.size w4 (w4.alloc (.cells #[.slice none 0 0, .slice none 0 0, .int .i64 0, .int .i64 0, .int .i64 0] 50)) := (Below.refl _ _).alloc (Nat.le_refl _) _
  refine ⟨hg.below hal, dstN_new (heap_alloc_new w4 _), runS_new _ _ _ _ rfl rfl rfl rfl, ⟨⟨rfl, rfl, rfl, rfl, rfl, rfl, rfl, rfl⟩, by simp, ⟨by show (1 : Int) ≤ 1; omega, by show (1 : Int) ≤ (P : Int) + 1; omega, fun _ => by show (1 : Int) ≤ (P : Int); omega⟩, ⟨Nat.zero_le _, fun _ => hT⟩, ?_, ?_, rfl, ⟨(fun h => by simp at h), fun _ => rfl⟩, (fun h => by simp at h), fun _ => rfl⟩, hb.kept hal, rfl, Nat.zero_le _, hbe.trans (hal.mono hbe.size), ⟨hB, hg.lt, Nat.le_refl _, Nat.le_refl _⟩, ho⟩
  · unfold callsOk
    refine ⟨fun _ => Nat.zero_le _, (fun h => by simp at h), (fun h => by simp at h), (fun h => by simp at h), (fun h => by simp at h), (fun h => by simp at h)⟩
  · exact Int.natCast_nonneg _
set_option maxRecDepth 100000 in
set_option maxHeartbeats 8000000 in
theorem upload_done (ky : ByteArray) (da : Option Addr) (dn dc : Nat) (xs : List Nat) (pc tr wt : Int) (fa : Option Addr) (fn fc : Nat) (fz : List Int) (w : World) (hk : ky.size ≤ 140737488355328) (hby : BytesAt w da dn dc xs) (hfz : IsRow .i64 8 w fa fn fc fz) :
    Calls Try.prog 4 #[.agg #[.string ky, .slice da dn dc, .int .i64 pc, .int .i64 tr, .int .i64 wt], .slice fa fn fc] w fun e w' => e = .returned (.bool true) ∧ Below w.heap.size w w' := by
  have HFZ := Lib.hid hfz
  clear hfz
  obtain ⟨w1, hw1⟩ : ∃ w1, w1 = w.alloc (.cells #[.string ky, .slice da dn dc, .int .i64 pc, .int .i64 tr, .int .i64 wt] 41) := ⟨_, rfl⟩
  have hb1 : Below w.heap.size w w1 := by rw [hw1]; exact (Below.refl _ _).alloc (Nat.le_refl _) _
  have hbox : ∀ (wr : World), Below w1.heap.size w1 wr → wr.cell? ⟨w.heap.size, 0, none⟩ = some (.string ky) ∧ wr.cell? ⟨w.heap.size, 1, none⟩ = some (.slice da dn dc) ∧ wr.cell? ⟨w.heap.size, 2, none⟩ = some (.int .i64 pc) ∧ wr.cell? ⟨w.heap.size, 3, none⟩ = some (.int .i64 tr) ∧ wr.cell? ⟨w.heap.size, 4, none⟩ = some (.int .i64 wt) := by
    intro wr hb
    rw [hw1] at hb
    exact ⟨box_cell hb rfl, box_cell hb rfl, box_cell hb rfl, box_cell hb rfl, box_cell hb rfl⟩
  have hdm : dn ≤ 140737488355328 := by have := hby.reach; omega
  have HBY := Lib.hid (hby.kept hb1)
  have HBOX := Lib.hid hbox
  have HB1 := Lib.hid hb1
  have HW1 := Lib.hid hw1
  clear hby hb1 hbox hw1
  cases hfw : fewB dn ky with
  | false =>
    have HFW := Lib.hid hfw
    clear hfw
    go_enter Try.func4, Try.ntmps4
    go_wp2_with fail
    rw [← HW1.out]
    refine (lives17_any w1).mono ?_
    rintro e w2 ⟨rfl, hb2⟩
    obtain ⟨b0, b1, b2, b3, b4⟩ := HBOX.out w2 hb2
    have HB2 := Lib.hid hb2
    clear hb2
    go_wp2_with fail
    refine (few17_any hk hdm).mono ?_
    rw [HFW.out]
    rintro e w3 ⟨rfl, hb3⟩
    have hb3' := HB2.out.trans (hb3.mono HB2.out.size)
    clear b0 b1 b2 b3 b4
    obtain ⟨b0, b1, b2, b3, b4⟩ := HBOX.out w3 hb3'
    have HB3 := Lib.hid hb3'
    have HBY3 := Lib.hid (HBY.out.kept hb3')
    clear hb3 hb3'
    go_wp2_with fail
    refine (lives17_any w3).mono ?_
    rintro e w4 ⟨rfl, hb4⟩
    have HB4 := Lib.hid ((HB1.out.trans (HB3.out.mono HB1.out.size)).trans (hb4.mono (Nat.le_trans HB1.out.size HB3.out.size)))
    clear hb4
    go_wp2_with fail
    go_ret
    exact ⟨rfl, HB4.out⟩
  | true =>
    have HFW := Lib.hid hfw
    have hdn : dn ≤ 3000 := by unfold fewB at hfw; rw [Bool.and_eq_true, decide_eq_true_eq] at hfw; exact hfw.1
    clear hfw
    by_cases hfn : 300 < fn
    · have zfn : (300 : Int) < (fn : Int) := by omega
      go_enter Try.func4, Try.ntmps4
      go_wp2_with fail
      rw [← HW1.out]
      refine (lives17_any w1).mono ?_
      rintro e w2 ⟨rfl, hb2⟩
      obtain ⟨b0, b1, b2, b3, b4⟩ := HBOX.out w2 hb2
      have HB2 := Lib.hid hb2
      clear hb2
      go_wp2_with fail
      refine (few17_any hk hdm).mono ?_
      rw [HFW.out]
      rintro e w3 ⟨rfl, hb3⟩
      have hb3' := HB2.out.trans (hb3.mono HB2.out.size)
      clear b0 b1 b2 b3 b4
      obtain ⟨b0, b1, b2, b3, b4⟩ := HBOX.out w3 hb3'
      have HB3 := Lib.hid hb3'
      have HBY3 := Lib.hid (HBY.out.kept hb3')
      clear hb3 hb3'
      go_wp2_with fail
      refine (lives17_any w3).mono ?_
      rintro e w4 ⟨rfl, hb4⟩
      have HB4 := Lib.hid ((HB1.out.trans (HB3.out.mono HB1.out.size)).trans (hb4.mono (Nat.le_trans HB1.out.size HB3.out.size)))
      clear hb4
      go_wp2_with fail
      go_ret
      exact ⟨rfl, HB4.out⟩
    have zfn : ¬ (300 : Int) < (fn : Int) := by omega
    by_cases hw20 : 3 < wt
    · skip
      go_enter Try.func4, Try.ntmps4
      go_wp2_with fail
      rw [← HW1.out]
      refine (lives17_any w1).mono ?_
      rintro e w2 ⟨rfl, hb2⟩
      obtain ⟨b0, b1, b2, b3, b4⟩ := HBOX.out w2 hb2
      have HB2 := Lib.hid hb2
      clear hb2
      go_wp2_with fail
      refine (few17_any hk hdm).mono ?_
      rw [HFW.out]
      rintro e w3 ⟨rfl, hb3⟩
      have hb3' := HB2.out.trans (hb3.mono HB2.out.size)
      clear b0 b1 b2 b3 b4
      obtain ⟨b0, b1, b2, b3, b4⟩ := HBOX.out w3 hb3'
      have HB3 := Lib.hid hb3'
      have HBY3 := Lib.hid (HBY.out.kept hb3')
      clear hb3 hb3'
      go_wp2_with fail
      refine (lives17_any w3).mono ?_
      rintro e w4 ⟨rfl, hb4⟩
      have HB4 := Lib.hid ((HB1.out.trans (HB3.out.mono HB1.out.size)).trans (hb4.mono (Nat.le_trans HB1.out.size HB3.out.size)))
      clear hb4
      go_wp2_with fail
      go_ret
      exact ⟨rfl, HB4.out⟩
    have hw20i : wt ≤ 3 := by omega
    clear hw20
    by_cases hmk : 1 ≤ pc ∧ pc ≤ 262144 ∧ fitsB tr wt = true
    case neg =>
      have HNO := Lib.hid (fun w' => new_no (w := w') (ky := ky) (da := da) (dc := dc) hdn hmk)
      clear hmk
      go_enter Try.func4, Try.ntmps4
      go_wp2_with fail
      rw [← HW1.out]
      refine (lives17_any w1).mono ?_
      rintro e w2 ⟨rfl, hb2⟩
      obtain ⟨b0, b1, b2, b3, b4⟩ := HBOX.out w2 hb2
      have HB2 := Lib.hid hb2
      clear hb2
      go_wp2_with fail
      refine (few17_any hk hdm).mono ?_
      rw [HFW.out]
      rintro e w3 ⟨rfl, hb3⟩
      have hb3' := HB2.out.trans (hb3.mono HB2.out.size)
      clear b0 b1 b2 b3 b4
      obtain ⟨b0, b1, b2, b3, b4⟩ := HBOX.out w3 hb3'
      have HB3 := Lib.hid hb3'
      have HBY3 := Lib.hid (HBY.out.kept hb3')
      clear hb3 hb3'
      go_wp2_with fail
      refine (HNO.out w3).mono ?_
      rintro e w4 ⟨rfl, rfl⟩
      have HB4 := Lib.hid (HB1.out.trans (HB3.out.mono HB1.out.size))
      go_wp2_with fail
      go_ret
      exact ⟨rfl, HB4.out⟩
    case pos =>
      obtain ⟨hp1, hp2, hfit⟩ := hmk
      obtain ⟨ht1, ht8, hw0, _⟩ : 1 ≤ tr ∧ tr ≤ 8 ∧ 0 ≤ wt ∧ wt ≤ 1099511627776 := by unfold fitsB at hfit; exact of_decide_eq_true hfit
      have HFIT := Lib.hid hfit
      clear hfit
      obtain ⟨p9, rfl⟩ : ∃ p9 : Nat, pc = (p9 : Int) := ⟨pc.toNat, by omega⟩
      obtain ⟨T, rfl⟩ : ∃ T : Nat, tr = (T : Int) := ⟨tr.toNat, by omega⟩
      obtain ⟨W, rfl⟩ : ∃ W : Nat, wt = (W : Int) := ⟨wt.toNat, by omega⟩
      go_enter Try.func4, Try.ntmps4
      go_wp2_with fail
      rw [← HW1.out]
      refine (lives17_any w1).mono ?_
      rintro e w2 ⟨rfl, hb2⟩
      obtain ⟨b0, b1, b2, b3, b4⟩ := HBOX.out w2 hb2
      have HB2 := Lib.hid hb2
      clear hb2
      go_wp2_with fail
      refine (few17_any hk hdm).mono ?_
      rw [HFW.out]
      rintro e w3 ⟨rfl, hb3⟩
      have hb3' := HB2.out.trans (hb3.mono HB2.out.size)
      clear b0 b1 b2 b3 b4
      obtain ⟨b0, b1, b2, b3, b4⟩ := HBOX.out w3 hb3'
      have HB3 := Lib.hid hb3'
      have HBY3 := Lib.hid (HBY.out.kept hb3')
      clear hb3 hb3'
      go_wp2_with fail
      refine (unew_any HBY3.out hdn (by omega) (by omega) HFIT.out).mono ?_
      rintro e w4 ⟨B, da', dc', rfl, hg, how, hb9, hB, hbn, hb4⟩
      have hB1 : w1.heap.size ≤ B := Nat.le_trans HB3.out.size hB
      have hb4' := HB3.out.trans (hb4.mono HB3.out.size)
      have hup := upPt_le (pc := p9) (dn := dn) (by omega) (by omega) hdn
      have hus := upSz_le (pc := p9) (dn := dn) (by omega) (by omega) hdn
      obtain ⟨P, hP9⟩ : ∃ P, P = upPt p9 dn := ⟨_, rfl⟩
      obtain ⟨s, hs9⟩ : ∃ s, s = upSz p9 dn := ⟨_, rfl⟩
      rw [← hP9, ← hs9] at hup
      rw [← hs9] at hus
      rw [← hP9, ← hs9] at hg
      have HRW := Lib.hid (runW_new (w1 := w1) hg (fun b off x e => by
        rcases how.2 with ⟨g0, _⟩ | ⟨g, cap, cur, g1, _, g3, _⟩
        · cases g0; cases e
        · cases g1; cases e; exact (Array.getElem?_eq_some_iff.1 g3).1) hb9 hB1 hb4' hup.1 (by omega))
      have HRUN := Lib.hid (run_walk (fa := fa) (fn := fn) (fc := fc) HRW.out ⟨hup.1, hup.2.1⟩ (by omega) (by omega) hus.2.1 hup.2.2.1 hup.2.2.2 (by omega) (fun w' hb => fates_at HFZ.out (HB1.out.trans (hb.mono HB1.out.size))))
      have HUP := Lib.hid hup
      have hT1 : 1 ≤ T := by omega
      have hT8 : T ≤ 8 := by omega
      have hW3 : W ≤ 3 := by omega
      obtain ⟨S, hS⟩ : ∃ S, S = w4.heap.size := ⟨_, rfl⟩
      obtain ⟨w5, hw5⟩ : ∃ w5, w5 = w4.alloc (.cells #[.slice none 0 0, .slice none 0 0, .int .i64 0, .int .i64 0, .int .i64 0] 50) := ⟨_, rfl⟩
      rw [← hS, ← hw5] at HRUN
      have HW5 := Lib.hid hw5
      have HS := Lib.hid hS
      clear b0 b1 b2 b3 b4 hg how hb9 hB hbn hb4 hB1 hb4' hup hus hP9 hs9 hw5 hS HRW ht1 ht8 hw0 hw20i
      go_upto_region 7 with fail
      rw [← HW5.out, ← HS.out]
      go_wp2_with fail
      refine HRUN.out.mono ?_
      rintro e w6 ⟨n, now, σ, u, rfl, hst, hrw⟩
      have HR := Lib.hid hrw
      have hn37 := run_calls hrw.ru ⟨HUP.out.1, HUP.out.2.1⟩ hT1
      have hov := hrw.ru.over.1 hst
      have HFL := Lib.hid hrw.ru.fail
      have HDN := Lib.hid hrw.ru.done
      have HSA := Lib.hid (fun y (h : Below w6.heap.size w6 y) => ustate_any (hrw.up.below h))
      have HBO := Lib.hid (fun y (h : Below w6.heap.size w6 y) => uborn_any (hrw.up.below h))
      have HAT := Lib.hid (fun y (h : Below w6.heap.size w6 y) => dat_any (hrw.st.below h) ky)
      obtain ⟨b0, b1, b2, b3, b4⟩ := HBOX.out w6 hrw.old
      have HBN := Lib.hid (HB1.out.trans (hrw.old.mono HB1.out.size))
      have w37 : IntKind.i64.wrap (37 * (T : Int)) = 37 * (T : Int) := IntWalk.i64_in _ (by omega)
      have zn : (n : Int) ≤ 37 * (T : Int) := by omega
      have HBYN := Lib.hid (HBY.out.kept hrw.old)
      clear hrw hst hn37 HRUN HUP
      rcases hov with h1 | h2
      · obtain ⟨o, ho, hok, hod, hob⟩ := HDN.out h1
        have HA0 := Lib.hid (atK_one ho hok)
        have hvv := HR.out.st.objs
        rw [ho] at hvv
        obtain ⟨gb, off, hga, hgl, hoo, hgc⟩ := hvv.get (i := 0) (by simp)
        have c0 := cell_blkD HR.out.st.blk (i := 0) (u := .slice σ.oa σ.objs.length σ.oc) rfl
        rw [ho, hga] at c0
        have c1 : w6.cell? ⟨gb, off + 1, none⟩ = some (.slice o.da o.dn o.dc) := hgc 1 _ rfl
        have c3 : w6.cell? ⟨gb, off + 3, none⟩ = some (.int .i64 u.born) := by rw [← hob]; exact hgc 3 _ rfl
        have hob9 := ObjOk.bytes (HR.out.st.obj o (by rw [ho]; exact List.mem_singleton.2 rfl))
        rw [hod] at hob9
        have HSM := Lib.hid (fun m : Nat => (same_any (hob9.kept (below_drewN (Below.refl _ w6) m)) (HBYN.out.kept (below_drewN (Below.refl _ w6) m))).mono fun e y h => (show e = .returned (.bool true) ∧ y = w6.drewN m from ⟨by rw [h.1, beq_self_eq_true], h.2.symm⟩))
        have HBQ := Lib.hid (fun m : Nat => (HBO.out (w6.drewN m) (below_drewN (Below.refl _ w6) m)).mono fun e y h => (show e = .returned (.int .i64 u.born) ∧ y = w6.drewN m from ⟨h.1, h.2.symm⟩))
        rw [h1] at HSA
        rw [HA0.out] at HAT
        obtain ⟨oa9, hoa9⟩ : ∃ oa9, oa9 = σ.oa := ⟨_, rfl⟩
        obtain ⟨oc9, hoc9⟩ : ∃ oc9, oc9 = σ.oc := ⟨_, rfl⟩
        obtain ⟨bn, hbn⟩ : ∃ bn, bn = u.born := ⟨_, rfl⟩
        obtain ⟨o1, ho1⟩ : ∃ o1, o1 = o.da := ⟨_, rfl⟩
        obtain ⟨o2, ho2⟩ : ∃ o2, o2 = o.dn := ⟨_, rfl⟩
        obtain ⟨o3, ho3⟩ : ∃ o3, o3 = o.dc := ⟨_, rfl⟩
        rw [← hoc9] at c0
        rw [← hbn] at c3 HBQ
        rw [← ho1, ← ho2, ← ho3] at c1 HSM
        simp only [List.length_cons, List.length_nil, Nat.zero_add] at c0
        clear hoa9 hoc9 hbn ho1 ho2 ho3 hvv hga hgl hoo hgc hob9 ho hok hod hob h1 HR HBO HDN HFL HA0
        go_wp2_with fail
        refine (HAT.out _ (Below.refl _ _)).mono ?_
        rintro e w7 ⟨rfl, rfl⟩
        go_wp2_with fail
        refine (HSA.out _ (Below.refl _ _)).mono ?_
        rintro e w8 ⟨rfl, rfl⟩
        go_upto_region 11 with fail
        go_quiet ((first | (go_at_call 19; exact Calls.quiet_of_same (HSM.out _)) | (go_at_call 20; exact Calls.quiet_of_same (HBQ.out _))))
        go_wp2_with fail
        go_ret
        exact ⟨rfl, below_drewN HBN.out _⟩
      · have hb0 := HFL.out (by omega)
        have HU2 := Lib.hid h2
        have HB0 := Lib.hid hb0
        rw [h2] at HSA
        rw [hb0] at HBO
        clear h2 hb0
        go_wp2_with fail
        refine (HAT.out _ (Below.refl _ _)).mono ?_
        rintro e w7 ⟨rfl, rfl⟩
        go_wp2_with fail
        refine (HSA.out _ (Below.refl _ _)).mono ?_
        rintro e w8 ⟨rfl, rfl⟩
        go_wp2_with fail
        refine (HBO.out _ (Below.refl _ _)).mono ?_
        rintro e w9 ⟨rfl, rfl⟩
        go_wp2_with fail
        go_ret
        exact ⟨rfl, HBN.out⟩
end Go.Proofs.Ytodoklnohedolaa
end PkUC7_4
section PkUC7_5
/- The law UploadCalm, walked. Written by genucalm.py. -/
namespace Go.Proofs.Ytodoklnohedolaa
open Go.RowKit
set_option linter.unusedVariables false

theorem fldR0 (a b c d e f g : Value) (w : World) : (Instr.field 36 (.agg #[a, b, c, d, e, f, g]) 0).run Try.prog w = .ok a w := by kernel_rfl
/-- the first create: done, or refused -/
theorem runC_new {w1 w6 : World} {B S : Nat} {ky : ByteArray} {da' : Option Addr} {dn dc' : Nat} {xs : List Nat} {s P : Nat} {tr wt : Int} {σ : DSto} (hg : UAt w6 B ⟨ky, da', dn, dc', (s : Int), (P : Int), 1, tr, wt, 0, 0, false, 0, 0, false, false, 0, 0⟩) (ho : ∀ b off x, da' = some ⟨b, off, x⟩ → b < S) (hb : BytesAt w6 da' dn dc' xs) (hB : w1.heap.size ≤ B) (hBS : B < S) (hbe : Below w1.heap.size w1 w6) (hst : DStAt w6 S S σ) (h1 : σ.objs = []) (h2 : σ.ups = []) (h3 : σ.now = 0) (h4 : σ.id = 1) (h5 : σ.ver = 0) :
    RunC w1 w1.heap.size B S S ky da' dn dc' s P xs 0 σ ⟨ky, da', dn, dc', (s : Int), (P : Int), 1, tr, wt, 0, 0, false, 0, 0, false, false, 0, 0⟩ w6 :=
  ⟨hg, hst, ⟨⟨rfl, rfl, rfl, rfl, rfl, rfl⟩, ⟨rfl, rfl, rfl⟩, h3, ⟨by omega, by omega, by omega, by omega⟩, .inl ⟨rfl, rfl, rfl, rfl, h2, h1⟩⟩, hb, hbe, ⟨hB, hBS, Nat.le_refl _, Nat.le_refl _⟩, ho⟩
set_option maxRecDepth 100000 in
set_option maxHeartbeats 8000000 in
theorem upload_calm (ky : ByteArray) (da : Option Addr) (dn dc : Nat) (xs : List Nat) (pc tr wt : Int) (w : World) (hk : ky.size ≤ 140737488355328) (hby : BytesAt w da dn dc xs) :
    Calls Try.prog 5 #[.agg #[.string ky, .slice da dn dc, .int .i64 pc, .int .i64 tr, .int .i64 wt]] w fun e w' => e = .returned (.bool true) ∧ Below w.heap.size w w' := by
  obtain ⟨w1, hw1⟩ : ∃ w1, w1 = w.alloc (.cells #[.string ky, .slice da dn dc, .int .i64 pc, .int .i64 tr, .int .i64 wt] 41) := ⟨_, rfl⟩
  have hb1 : Below w.heap.size w w1 := by rw [hw1]; exact (Below.refl _ _).alloc (Nat.le_refl _) _
  have hbox : ∀ (wr : World), Below w1.heap.size w1 wr → wr.cell? ⟨w.heap.size, 0, none⟩ = some (.string ky) ∧ wr.cell? ⟨w.heap.size, 1, none⟩ = some (.slice da dn dc) ∧ wr.cell? ⟨w.heap.size, 2, none⟩ = some (.int .i64 pc) ∧ wr.cell? ⟨w.heap.size, 3, none⟩ = some (.int .i64 tr) ∧ wr.cell? ⟨w.heap.size, 4, none⟩ = some (.int .i64 wt) := by
    intro wr hb
    rw [hw1] at hb
    exact ⟨box_cell hb rfl, box_cell hb rfl, box_cell hb rfl, box_cell hb rfl, box_cell hb rfl⟩
  have hdm : dn ≤ 140737488355328 := by have := hby.reach; omega
  have HBY := Lib.hid (hby.kept hb1)
  have HBOX := Lib.hid hbox
  have HB1 := Lib.hid hb1
  have HW1 := Lib.hid hw1
  clear hby hb1 hbox hw1
  cases hfw : fewB dn ky with
  | false =>
    have HFW := Lib.hid hfw
    clear hfw
    go_enter Try.func5, Try.ntmps5
    go_wp2_with fail
    rw [← HW1.out]
    refine (lives17_any w1).mono ?_
    rintro e w2 ⟨rfl, hb2⟩
    obtain ⟨b0, b1, b2, b3, b4⟩ := HBOX.out w2 hb2
    have HB2 := Lib.hid hb2
    clear hb2
    go_wp2_with fail
    refine (few17_any hk hdm).mono ?_
    rw [HFW.out]
    rintro e w3 ⟨rfl, hb3⟩
    have hb3' := HB2.out.trans (hb3.mono HB2.out.size)
    clear b0 b1 b2 b3 b4
    obtain ⟨b0, b1, b2, b3, b4⟩ := HBOX.out w3 hb3'
    have HB3 := Lib.hid hb3'
    have HBY3 := Lib.hid (HBY.out.kept hb3')
    clear hb3 hb3'
    go_wp2_with fail
    refine (lives17_any w3).mono ?_
    rintro e w4 ⟨rfl, hb4⟩
    have HB4 := Lib.hid ((HB1.out.trans (HB3.out.mono HB1.out.size)).trans (hb4.mono (Nat.le_trans HB1.out.size HB3.out.size)))
    clear hb4
    go_wp2_with fail
    go_ret
    exact ⟨rfl, HB4.out⟩
  | true =>
    have HFW := Lib.hid hfw
    have hdn : dn ≤ 3000 := by unfold fewB at hfw; rw [Bool.and_eq_true, decide_eq_true_eq] at hfw; exact hfw.1
    clear hfw
    by_cases hmk : 1 ≤ pc ∧ pc ≤ 262144 ∧ fitsB tr wt = true
    case neg =>
      have HNO := Lib.hid (fun w' => new_no (w := w') (ky := ky) (da := da) (dc := dc) hdn hmk)
      clear hmk
      go_enter Try.func5, Try.ntmps5
      go_wp2_with fail
      rw [← HW1.out]
      refine (lives17_any w1).mono ?_
      rintro e w2 ⟨rfl, hb2⟩
      obtain ⟨b0, b1, b2, b3, b4⟩ := HBOX.out w2 hb2
      have HB2 := Lib.hid hb2
      clear hb2
      go_wp2_with fail
      refine (few17_any hk hdm).mono ?_
      rw [HFW.out]
      rintro e w3 ⟨rfl, hb3⟩
      have hb3' := HB2.out.trans (hb3.mono HB2.out.size)
      clear b0 b1 b2 b3 b4
      obtain ⟨b0, b1, b2, b3, b4⟩ := HBOX.out w3 hb3'
      have HB3 := Lib.hid hb3'
      have HBY3 := Lib.hid (HBY.out.kept hb3')
      clear hb3 hb3'
      go_wp2_with fail
      refine (HNO.out w3).mono ?_
      rintro e w4 ⟨rfl, rfl⟩
      have hal : Below w3.heap.size w3 (w3.alloc (.cells #[.slice none 0 0, .slice none 0 0, .int .i64 0, .int .i64 0, .int .i64 0] 50)) := (Below.refl _ _).alloc (Nat.le_refl _) _
      have HB4 := Lib.hid (HB1.out.trans ((HB3.out.trans (hal.mono HB3.out.size)).mono HB1.out.size))
      clear hal
      go_wp2_with fail
      go_ret
      exact ⟨rfl, HB4.out⟩
    case pos =>
      obtain ⟨hp1, hp2, hfit⟩ := hmk
      have HFIT := Lib.hid hfit
      clear hfit
      obtain ⟨p9, rfl⟩ : ∃ p9 : Nat, pc = (p9 : Int) := ⟨pc.toNat, by omega⟩
      go_enter Try.func5, Try.ntmps5
      go_wp2_with fail
      rw [← HW1.out]
      refine (lives17_any w1).mono ?_
      rintro e w2 ⟨rfl, hb2⟩
      obtain ⟨b0, b1, b2, b3, b4⟩ := HBOX.out w2 hb2
      have HB2 := Lib.hid hb2
      clear hb2
      go_wp2_with fail
      refine (few17_any hk hdm).mono ?_
      rw [HFW.out]
      rintro e w3 ⟨rfl, hb3⟩
      have hb3' := HB2.out.trans (hb3.mono HB2.out.size)
      clear b0 b1 b2 b3 b4
      obtain ⟨b0, b1, b2, b3, b4⟩ := HBOX.out w3 hb3'
      have HB3 := Lib.hid hb3'
      have HBY3 := Lib.hid (HBY.out.kept hb3')
      clear hb3 hb3'
      go_wp2_with fail
      refine (unew_any HBY3.out hdn (by omega) (by omega) HFIT.out).mono ?_
      rintro e w4 ⟨B, da', dc', rfl, hg, how, hb9, hB, hbn, hb4⟩
      have hB1 : w1.heap.size ≤ B := Nat.le_trans HB3.out.size hB
      have hb4' := HB3.out.trans (hb4.mono HB3.out.size)
      have hup := upPt_le (pc := p9) (dn := dn) (by omega) (by omega) hdn
      have hus := upSz_le (pc := p9) (dn := dn) (by omega) (by omega) hdn
      obtain ⟨P, hP9⟩ : ∃ P, P = upPt p9 dn := ⟨_, rfl⟩
      obtain ⟨s, hs9⟩ : ∃ s, s = upSz p9 dn := ⟨_, rfl⟩
      rw [← hP9, ← hs9] at hup
      rw [← hs9] at hus
      rw [← hP9, ← hs9] at hg
      obtain ⟨S, hS⟩ : ∃ S, S = w4.heap.size := ⟨_, rfl⟩
      obtain ⟨w5, hw5⟩ : ∃ w5, w5 = w4.alloc (.cells #[.slice none 0 0, .slice none 0 0, .int .i64 0, .int .i64 0, .int .i64 0] 50) := ⟨_, rfl⟩
      have hal : Below w4.heap.size w4 w5 := by rw [hw5]; exact (Below.refl _ _).alloc (Nat.le_refl _) _
      have hb5' := hb4'.trans (hal.mono hb4'.size)
      have HST5 := Lib.hid (show DStAt w5 S S dstoN from dstN_new (by rw [hw5, hS]; exact heap_alloc_new w4 _))
      have hsz5 : w4.heap.size < w5.heap.size := by rw [hw5]; exact (Array.getElem?_eq_some_iff.1 (heap_alloc_new w4 _)).1
      have HG5 := Lib.hid (hg.below hal)
      have HBS := Lib.hid (show B < S from by rw [hS]; exact hg.lt)
      have HRW := Lib.hid (show ∀ b off x, da' = some ⟨b, off, x⟩ → b < S from fun b off x e => by
        rcases how.2 with ⟨g0, _⟩ | ⟨g, cap, cur, g1, _, g3, _⟩
        · cases g0; cases e
        · cases g1; cases e; rw [hS]; exact (Array.getElem?_eq_some_iff.1 g3).1)
      have HBD := Lib.hid (hb9.kept hal)
      have HB5 := Lib.hid hb5'
      have HBB := Lib.hid hB1
      have HUP := Lib.hid hup
      have HUS := Lib.hid hus
      have HDO := Lib.hid (ddo_7 (vr := 0) (at_ := 0) (nn := 0) (id := 0) (ky := ky) (a := none) (n := 0) (c := 0) HST5.out (by omega) ⟨by decide, by decide⟩)
      have HW5 := Lib.hid hw5
      have HS := Lib.hid hS
      obtain ⟨c0, c1, c2, c3, c4⟩ := HBOX.out w5 hb5'
      clear b0 b1 b2 b3 b4 hg how hb9 hB hbn hb4 hB1 hb4' hup hus hP9 hs9 hw5 hS hal hb5' hsz5 c1 c2 c3 c4 HB2
      go_upto_region 5 with fail
      rw [← HW5.out, ← HS.out]
      by_cases hky : isKeyB ky = true
      case neg =>
        go_wp2_with fail
        refine HDO.out.mono ?_
        rintro e w6 ⟨h1, _⟩
        obtain ⟨rfl, hst, hfr⟩ := h1 (Bool.eq_false_iff.2 hky)
        have HBN := Lib.hid (HB1.out.trans ((HB5.out.trans ((hfr.toBelow (B := w1.heap.size) HB5.out.size (fun i hi => by
          have h3 := HST5.out.lo2 (Nat.le_refl S) hi
          have h4 := HBB.out
          have h5 := HBS.out
          omega)))).mono HB1.out.size))
        unfold rep0
        have hf0 := fldR0 (.int .i64 1) (.slice none 0 0) (.int .i64 0) (.int .i64 0) (.int .i64 0) (.slice none 0 0) (.bool false) w6
        clear h1 hst hfr c0
        go_wp2_with fail
        go_ret
        exact ⟨rfl, HBN.out⟩
      have HKY := Lib.hid hky
      go_wp2_with fail
      refine HDO.out.mono ?_
      rintro e w6 ⟨_, _, h3⟩
      obtain ⟨rfl, ⟨ua, uc, hst⟩, hfr⟩ := h3 HKY.out (by decide)
      have hlo : ∀ i, DF S dstoN i → S ≤ i := fun i hi => HST5.out.lo2 (Nat.le_refl S) hi
      have hbel : Below S w5 w6 := hfr.toBelow (by have h1 := HST5.out.lt (b := S) (.inl rfl); omega) hlo
      have HST6 := Lib.hid hst
      have HB6 := Lib.hid (HB5.out.trans (hbel.mono (by have h4 := HBB.out; have h5 := HBS.out; omega)))
      have hg6 := HG5.out.bel HBS.out hbel
      have hbd6 := bytes_bel HBD.out HRW.out hbel
      have s1 := cell_blk hst.blk (i := 1) (u := _) rfl
      have t1 := fro_blk hst.blk 1
      have ht7 : Turns S w6 (w6.setCell ⟨S, 1, none⟩ (.slice none 0 0)) := (Turns.refl S w6).set 1 _
      obtain ⟨w7, hw7⟩ : ∃ w7, w7 = w6.setCell ⟨S, 1, none⟩ (.slice none 0 0) := ⟨_, rfl⟩
      rw [← hw7] at ht7
      have HRC := Lib.hid (runC_new (w1 := w1) (tr := tr) (wt := wt) ((ht7.block B hg6.lt (by have := HBS.out; omega)).trans hg6) HRW.out (bytes_but hbd6 (noB_sto hst) ht7.size (fun b hb hne => ht7.block b hb hne)) HBB.out HBS.out (HB6.out.trans ⟨ht7.os, ht7.tape, ht7.output, ht7.size, fun k hk => ht7.block k (by have := HB6.out.size; omega) (by have h4 := HBB.out; have h5 := HBS.out; omega)⟩) (by rw [hw7]; exact hst.noUps) rfl rfl rfl rfl rfl)
      have HRUN := Lib.hid (run_calm HRC.out HKY.out ⟨HUP.out.1, HUP.out.2.1⟩ HUS.out.2.1 hdn HUP.out.2.2.1 HUP.out.2.2.2)
      have HW7 := Lib.hid hw7
      unfold rep
      have hf0 := fldR0 (.int .i64 0) (.slice none 0 0) (.int .i64 0) (.int .i64 dstoN.now) (.int .i64 (dstoN.id + 1)) (.slice none 0 0) (.bool false) w6
      clear h3 hst hfr hlo hbel hg6 hbd6 ht7 hw7 c0
      go_upto_region 8 with fail
      rw [← HW7.out]
      clear s1 t1
      go_wp2_with fail
      refine HRUN.out.mono ?_
      rintro e w8 ⟨n, σ, u, rfl, hu5, hrc⟩
      have HSA := Lib.hid (ustate_any hrc.up)
      have HBN := Lib.hid (HB1.out.trans (hrc.old.mono HB1.out.size))
      obtain ⟨hnP, hs1, hups, o, hobj⟩ : n = P + 2 ∧ u.state = 1 ∧ σ.ups = [] ∧ ∃ o, σ.objs = [o] := by
        rcases hrc.cs.std with ⟨h0, _⟩ | ⟨_, _, h0, _⟩ | ⟨_, h1, h2, h3, h4⟩
        · omega
        · omega
        · exact ⟨h1, h2, h3, h4⟩
      have d0 := cell_blk hrc.st.blk (i := 0) (u := _) rfl
      have d1 := cell_blk hrc.st.blk (i := 1) (u := _) rfl
      rw [hobj] at d0
      rw [hups] at d1
      simp only [List.length_cons, List.length_nil, Nat.zero_add] at d0 d1
      rw [hs1] at HSA
      have hP1 := HUP.out.1
      have hP2 := HUP.out.2.1
      have z3 : (3 : Int) ≤ (n : Int) := by omega
      have z34 : (n : Int) ≤ 34 := by omega
      clear hrc hu5 hnP hs1 hups hobj hP1 hP2
      go_wp2_with fail
      refine HSA.out.mono ?_
      rintro e w9 ⟨rfl, rfl⟩
      go_wp2_with fail
      go_ret
      exact ⟨rfl, HBN.out⟩
end Go.Proofs.Ytodoklnohedolaa
end PkUC7_5
section PkUC7_6
/- A setting that came in, opened. Written by genupopen.py. -/
namespace Go.Proofs.Ytodoklnohedolaa
open Go.ChangeShapes Go.WideShapes Go.Deep Go.RowKit
set_option linter.unusedVariables false

set_option maxRecDepth 100000 in
/-- a setting that came in -/
theorem open_setting {H : Type} {enc : TypeId × Value → H} {W : World} {fuel : Nat} {cs : Array Value} {x : DataW H × List MemPlace}
    (h : DataW.trod enc Try.prog W 0 (fun _ => true) true fuel 41 cs.toList = some x) (hw : ∀ n, n ∈ DataW.weights Try.prog 41 x.1 → n ≤ reachBytes) :
    ∃ (ky : ByteArray) (a : Option Addr) (len cap : Nat) (xs : List Nat) (pc tr wt : Int), cs = #[.string ky, .slice a len cap, .int .i64 pc, .int .i64 tr, .int .i64 wt] ∧ ky.size ≤ 140737488355328 ∧ BytesAt W a len cap xs := by
  obtain ⟨xs, n, _, hy, hcl, hxl, hfld⟩ := DataW.trod_struct Try.underlying41 h
  rw [show Try.prog.cellsOf 41 = 5 from by kernel_rfl] at hcl
  have hxl2 : xs.length = 5 := hxl
  obtain ⟨ls, hls⟩ : ∃ ls, ls = cs.toList := ⟨_, rfl⟩
  have hcs : cs = ls.toArray := by rw [hls]
  rw [← hls] at hcl hfld
  subst hcs
  clear h hls
  match ls, xs, hcl, hxl2 with
  | [v0, v1, v2, v3, v4], [p0, p1, p2, p3, p4], _, _ =>
    have t0 : DataW.trod enc Try.prog W 0 (fun _ => true) true n 9 (List.take (Try.prog.cellsOf 9) (List.drop 0 [v0, v1, v2, v3, v4])) = [p0, p1, p2, p3, p4][0]? := hfld 0 _ rfl
    rw [show Try.prog.cellsOf 9 = 1 from by kernel_rfl] at t0
    have u0 : DataW.trod enc Try.prog W 0 (fun _ => true) true n 9 [v0] = some p0 := by simpa using t0
    have t1 : DataW.trod enc Try.prog W 0 (fun _ => true) true n 28 (List.take (Try.prog.cellsOf 28) (List.drop 1 [v0, v1, v2, v3, v4])) = [p0, p1, p2, p3, p4][1]? := hfld 1 _ rfl
    rw [show Try.prog.cellsOf 28 = 1 from by kernel_rfl] at t1
    have u1 : DataW.trod enc Try.prog W 0 (fun _ => true) true n 28 [v1] = some p1 := by simpa using t1
    have t2 : DataW.trod enc Try.prog W 0 (fun _ => true) true n 3 (List.take (Try.prog.cellsOf 3) (List.drop 2 [v0, v1, v2, v3, v4])) = [p0, p1, p2, p3, p4][2]? := hfld 2 _ rfl
    rw [show Try.prog.cellsOf 3 = 1 from by kernel_rfl] at t2
    have u2 : DataW.trod enc Try.prog W 0 (fun _ => true) true n 3 [v2] = some p2 := by simpa using t2
    have t3 : DataW.trod enc Try.prog W 0 (fun _ => true) true n 3 (List.take (Try.prog.cellsOf 3) (List.drop 3 [v0, v1, v2, v3, v4])) = [p0, p1, p2, p3, p4][3]? := hfld 3 _ rfl
    rw [show Try.prog.cellsOf 3 = 1 from by kernel_rfl] at t3
    have u3 : DataW.trod enc Try.prog W 0 (fun _ => true) true n 3 [v3] = some p3 := by simpa using t3
    have t4 : DataW.trod enc Try.prog W 0 (fun _ => true) true n 3 (List.take (Try.prog.cellsOf 3) (List.drop 4 [v0, v1, v2, v3, v4])) = [p0, p1, p2, p3, p4][4]? := hfld 4 _ rfl
    rw [show Try.prog.cellsOf 3 = 1 from by kernel_rfl] at t4
    have u4 : DataW.trod enc Try.prog W 0 (fun _ => true) true n 3 [v4] = some p4 := by simpa using t4
    obtain ⟨s0, hs0, hx0, _⟩ := DataW.trod_string Try.underlying9 u0
    obtain ⟨s2, hs2, hx2, _⟩ := DataW.trod_int Try.underlying3 u2
    obtain ⟨s3, hs3, hx3, _⟩ := DataW.trod_int Try.underlying3 u3
    obtain ⟨s4, hs4, hx4, _⟩ := DataW.trod_int Try.underlying3 u4
    have e0 : v0 = .string s0 := by simpa using hs0
    have e2 : v2 = .int .i64 s2 := by simpa using hs2
    have e3 : v3 = .int .i64 s3 := by simpa using hs3
    have e4 : v4 = .int .i64 s4 := by simpa using hs4
    subst e0 e2 e3 e4
    have hy1 : x.1 = .agg [p0.1, p1.1, p2.1, p3.1, p4.1] := by rw [hy]; rfl
    have w0 := hw s0.data.toList.length (by rw [hy1, hx0]; simp [DataW.weights, DataW.weightsEach, Try.underlying41])
    have hr := reachBytes_lt
    have w1 : ∀ m, m ∈ DataW.weights Try.prog 28 p1.1 → m ≤ reachBytes := fun m hm => hw m (by rw [hy1]; simp [DataW.weights, DataW.weightsEach, Try.underlying41, hm])
    obtain ⟨a, len, cap, zs, he, hrow⟩ : ∃ (a : Option Addr) (len cap : Nat) (zs : List Int), v1 = .slice a len cap ∧ IsRow .u8 1 W a len cap zs := by
      rcases open_ints Try.underlying28 Try.underlying5 (by kernel_rfl) u1 with ⟨hcs, _⟩ | ⟨y, l, c, zs, hcs, _, hl, hm, hz, hd, hcell, hwz⟩
      · simp at hcs
        exact ⟨none, 0, 0, [], hcs, .inl ⟨rfl, rfl, rfl, rfl⟩⟩
      · simp at hcs
        have hz2 : zs.length = c := by simpa using hz
        have hs := w1 (((lits IntKind.u8 (zs.take l) : List (DataW H)).length + (lits IntKind.u8 (zs.drop l) : List (DataW H)).length) * Try.prog.bytesOf 5) (by
          rw [hd]
          simp only [DataW.weights, Try.underlying28]
          exact List.mem_cons_self)
        rw [show Try.prog.bytesOf 5 = 1 from by kernel_rfl] at hs
        simp only [lits, List.length_map, List.length_take, List.length_drop, reachBytes] at hs
        exact ⟨some y, l, c, zs, hcs, .inr ⟨_, rfl, hl, hm, hz2, hcell, hwz, by omega⟩⟩
    subst he
    obtain ⟨bs, hbs⟩ := hrow.bytes
    exact ⟨s0, a, len, cap, bs, s2, s3, s4, rfl, by show s0.size ≤ _; simp at w0; omega, hbs⟩
end Go.Proofs.Ytodoklnohedolaa
end PkUC7_6
