/- A box: New, Put, Take, Len, Room walked: one channel with a buffer, in one goroutine. -/
import Derived.Test.YtpcohkhdbjimgaaRows
import Derived.WalkKit
import Derived.Lib.Hide
import Derived.BigQuiet
import Derived.Laws.AppendOwnNone
import Derived.Maps.AppendAt
import Derived.Below
import Derived.ChangeSame
import Derived.Conc.LoneCalls
import Derived.Conc.LoneSelect
import Derived.Conc.LoneSelectN
import Derived.KernelRfl
import Derived.Laws.Rows
namespace Go.Proofs.Ytpcohkhdbjimgaa
open Go.RowKit Go.Conc
set_option linter.unusedVariables false

def iv (l : List Int) : List Value := l.map fun z => Value.int .i64 z
theorem iv_length (l : List Int) : (iv l).length = l.length := by simp [iv]
theorem iv_append (l r : List Int) : iv (l ++ r) = iv l ++ iv r := by simp [iv]
/-- a box's state -/
structure BoxAt (w : World) (B C room : Nat) (xs : List Int) : Prop where
  blk : w.heap[B]? = some (.cells #[.chan (some C)] 64 (0, 0))
  ch : ∃ s r, w.heap[C]? = some (.chan room (iv xs).toArray false s r false)
theorem BoxAt.c0 {w : World} {B C room : Nat} {xs : List Int} (h : BoxAt w B C room xs) : w.cell? ⟨B, 0, none⟩ = some (.chan (some C)) := by rw [cell_of_row w B 0 _ _ (0, 0) h.blk]; rfl
theorem BoxAt.ltB {w : World} {B C room : Nat} {xs : List Int} (h : BoxAt w B C room xs) : B < w.heap.size := (Array.getElem?_eq_some_iff.1 h.blk).1
theorem BoxAt.ltC {w : World} {B C room : Nat} {xs : List Int} (h : BoxAt w B C room xs) : C < w.heap.size := by obtain ⟨s, r, h⟩ := h.ch; exact (Array.getElem?_eq_some_iff.1 h).1
theorem BoxAt.ne {w : World} {B C room : Nat} {xs : List Int} (h : BoxAt w B C room xs) : C ≠ B := by
  intro e
  obtain ⟨s, r, hc⟩ := h.ch
  rw [e, h.blk] at hc
  cases hc
theorem BoxAt.kept {w w' : World} {B C room : Nat} {xs : List Int} (h : BoxAt w B C room xs) (hb : Below w.heap.size w w') : BoxAt w' B C room xs :=
  ⟨by rw [hb.block B h.ltB]; exact h.blk, by obtain ⟨s, r, hc⟩ := h.ch; exact ⟨s, r, by rw [hb.block C h.ltC]; exact hc⟩⟩
theorem setChan_other (w : World) (c c' cap : Nat) (buf : Array Value) (closed : Bool) (s r : Nat) (tm : Bool) (h : c ≠ c') : (w.setChan c cap buf closed s r tm).heap[c']? = w.heap[c']? := by
  simp [World.setChan, Array.getElem?_setIfInBounds_ne h]
theorem grown_setChan (w : World) (c cap : Nat) (buf : Array Value) (closed : Bool) (s r : Nat) (tm : Bool) : w.grownBy (w.setChan c cap buf closed s r tm) (some c) :=
  ⟨rfl, rfl, rfl, by simp [World.setChan], fun k _ hk => setChan_other _ _ _ _ _ _ _ _ _ (fun e => hk (by rw [e]))⟩
theorem BoxAt.turned {w : World} {B C room : Nat} {xs ys : List Int} (h : BoxAt w B C room xs) (s r : Nat) : BoxAt (w.setChan C room (iv ys).toArray false s r false) B C room ys :=
  ⟨by rw [setChan_other _ _ _ _ _ _ _ _ _ h.ne]; exact h.blk, s, r, heap_setChan _ _ _ _ _ _ _ _ h.ltC⟩
/-- a box apart from what was turned -/
theorem BoxAt.grown {w w' : World} {B C D room : Nat} {xs : List Int} (h : BoxAt w B C room xs) (hg : w.grownBy w' (some D)) (h1 : D ≠ B) (h2 : D ≠ C) : BoxAt w' B C room xs :=
  ⟨by rw [hg.block B h.ltB (fun e => h1 (by simpa using e.symm))]; exact h.blk, by obtain ⟨s, r, hc⟩ := h.ch; exact ⟨s, r, by rw [hg.block C h.ltC (fun e => h2 (by simpa using e.symm))]; exact hc⟩⟩

theorem roomy_any (room : Int) (w : World) :
    Calls Try.prog 28 #[.int .i64 room] w fun e w' => e = .returned (.bool (decide (1 ≤ room) && decide (room ≤ 2048))) ∧ w' = w := by
  by_cases h : 1 ≤ room
  · go_enter Try.func28, Try.ntmps28
    go_wp2_with fail
    go_ret
    rw [decide_eq_true h]; exact ⟨rfl, rfl⟩
  · have h2 : room < 1 := by omega
    go_enter Try.func28, Try.ntmps28
    go_wp2_with fail
    go_ret
    rw [decide_eq_false (show ¬ (1 : Int) ≤ room by omega)]; exact ⟨rfl, rfl⟩
theorem int_bytes : ∃ i, Try.prog.info? 3 = some i ∧ i.bytes = 8 := by
  have h : (Try.prog.info? 3).map (·.bytes) = some 8 := by kernel_rfl
  obtain ⟨i, hi, hb⟩ := Option.map_eq_some_iff.1 h
  exact ⟨i, hi, hb⟩

theorem new_no (room : Int) (h : ¬ (1 ≤ room ∧ room ≤ 2048)) (w : World) :
    Calls Try.prog 7 #[.int .i64 room] w fun e w' => e = .returned (.pointer none) ∧ w' = w := by
  have hr := roomy_any room w
  rw [show (decide (1 ≤ room) && decide (room ≤ 2048)) = false by rw [← Bool.not_eq_true, Bool.and_eq_true, decide_eq_true_eq, decide_eq_true_eq]; exact h] at hr
  have HR := Lib.hid hr
  clear hr
  go_enter Try.func7, Try.ntmps7
  go_wp2_with fail
  refine HR.out.mono ?_
  rintro e w' ⟨rfl, rfl⟩
  go_wp2_with fail
  go_ret
  exact ⟨rfl, rfl⟩
theorem new_yes (room : Nat) (h1 : 1 ≤ room) (h2 : room ≤ 2048) (w : World) :
    Calls Try.prog 7 #[.int .i64 (room : Int)] w fun e w' => e = .returned (.pointer (some ⟨w.heap.size + 1, 0, none⟩)) ∧ BoxAt w' (w.heap.size + 1) w.heap.size room [] ∧ Below w.heap.size w w' := by
  obtain ⟨i, hi, hb⟩ := int_bytes
  have hmc := run_makeChan (P := Try.prog) (w := w) Try.underlying62 hi .i64 room (by omega) (by rw [hb]; omega)
  have hr := roomy_any (room : Int) w
  rw [decide_eq_true (show (1 : Int) ≤ (room : Int) by omega), decide_eq_true (show (room : Int) ≤ 2048 by omega)] at hr
  have HR := Lib.hid hr
  clear hr hi hb
  go_enter Try.func7, Try.ntmps7
  go_wp2_with fail
  refine HR.out.mono ?_
  rintro e w' ⟨rfl, rfl⟩
  rename World => w
  go_wp2_with fail
  go_ret
  have e1 := heap_alloc_new w (.chan room #[] false 0 0 false)
  have hs : (w.alloc (.chan room #[] false 0 0 false)).heap.size = w.heap.size + 1 := by simp
  have e2 := heap_alloc_new (w.alloc (.chan room #[] false 0 0 false)) (.cells #[.chan (some w.heap.size)] 64)
  rw [hs] at e2
  refine ⟨by simp, ⟨e2, 0, 0, ?_⟩, ((Below.refl _ _).alloc (Nat.le_refl _) _).alloc (by simp) _⟩
  rw [Below.heap_alloc _ _ _ (by simp)]
  exact e1

set_option maxRecDepth 100000 in
theorem put_nil (x : Int) (w : World) :
    Calls Try.prog 10 #[.pointer none, .int .i64 x] w fun e w' => e = .returned (.bool false) ∧ w' = w := by
  go_enter Try.func10, Try.ntmps10
  go_wp2_with fail
  go_ret
  exact ⟨rfl, rfl⟩
theorem take_nil (w : World) :
    Calls Try.prog 9 #[.pointer none] w fun e w' => e = .returned (.tuple #[.int .i64 0, .bool false]) ∧ w' = w := by
  go_enter Try.func9, Try.ntmps9
  go_wp2_with fail
  go_ret2
  exact ⟨rfl, rfl⟩
theorem res_s (a : Nat) (u z : Value) (k : Int) : commResult #[scase a u z] .select k undef false = .tuple #[goInt k, .bool false] := by
  simp [commResult, scase, List.zipIdx_cons]

set_option maxRecDepth 100000 in
set_option maxHeartbeats 1000000 in
theorem put_room {w : World} {B C room : Nat} {xs : List Int} (h : BoxAt w B C room xs) (x : Int) (hr : xs.length < room) :
    Calls Try.prog 10 #[.pointer (some ⟨B, 0, none⟩), .int .i64 x] w fun e w' => e = .returned (.bool true) ∧ BoxAt w' B C room (xs ++ [x]) ∧ w.grownBy w' (some C) := by
  refine calls_of_loneTo fun cs => ?_
  have e : Frame.enter Try.prog 10 #[.pointer (some ⟨B, 0, none⟩), .int .i64 x] .normal = (base 10).at ⟨#[.pointer (some ⟨B, 0, none⟩), .int .i64 x, undef, undef, undef, undef, undef, undef, undef, undef, undef, undef, undef, undef, undef], []⟩ [.code (Try.f10.body.getD .skip)] := by
    simp [Frame.enter, Frame.at, Try.func10, base, Try.f10]
  rw [e]
  have c0 := h.c0
  obtain ⟨sn, rn, hch⟩ := h.ch
  refine LoneTo.goes (n := 60) ?_
  simp only [Try.f10, Option.getD_some]
  s_c stepG_seq
  s_reg
  s_op
  s_c stepG_region_end
  s_c stepG_seq
  s_c stepG_seq
  s_reg
  s_op
  s_op
  s_c stepG_region_end
  s_cond false
  s_c stepG_skip
  s_c stepG_seq
  s_c stepG_seq
  s_reg
  s_op
  s_op
  s_op
  s_op
  s_c stepG_region_end
  s_reg
  s_op
  s_c stepG_region_end
  s_c stepG_seq
  s_reg
  s_stop
  refine LoneTo.step (step_lone_select_send_room (c := C) (v := .int .i64 x) (z' := .int .i64 0) (cap := room) (buf := (iv xs).toArray) (s := sn) (r := rn) (tm := false)
    (stepG_comm (cases := #[scase C (.int .i64 x) (.int .i64 0)]) (blocking := false) (shape := .select) (w' := w) rfl rfl (by decide) (by simp [go_sem, execOp, scase, Act.eval]))
    hch (by rw [List.size_toArray, iv_length]; exact hr)) ?_
  rw [Frame.finish_at]
  walk_nrm
  refine LoneTo.goes (n := 60) ?_
  s_op
  s_op
  s_c stepG_region_end
  s_c stepG_block
  s_cond true
  s_c stepG_seq
  s_reg
  s_op
  s_c stepG_region_end
  s_c stepG_ret'
  s_stop
  refine LoneTo.done ⟨.returned (.bool true), _, rfl, ⟨rfl, ?_⟩, rfl, rfl, rfl, rfl, _, Try.func10, by simp [results, Try.f10, Frame.at]⟩
  rw [show iv xs ++ [Value.int IntKind.i64 x] = iv (xs ++ [x]) by rw [iv_append]; rfl]
  exact ⟨h.turned _ _, grown_setChan _ _ _ _ _ _ _ _⟩
set_option maxRecDepth 100000 in
set_option maxHeartbeats 1000000 in
theorem put_full {w : World} {B C room : Nat} {xs : List Int} (h : BoxAt w B C room xs) (x : Int) (hr : room ≤ xs.length) :
    Calls Try.prog 10 #[.pointer (some ⟨B, 0, none⟩), .int .i64 x] w fun e w' => e = .returned (.bool false) ∧ w' = w := by
  refine calls_of_loneTo fun cs => ?_
  have e : Frame.enter Try.prog 10 #[.pointer (some ⟨B, 0, none⟩), .int .i64 x] .normal = (base 10).at ⟨#[.pointer (some ⟨B, 0, none⟩), .int .i64 x, undef, undef, undef, undef, undef, undef, undef, undef, undef, undef, undef, undef, undef], []⟩ [.code (Try.f10.body.getD .skip)] := by
    simp [Frame.enter, Frame.at, Try.func10, base, Try.f10]
  rw [e]
  have c0 := h.c0
  obtain ⟨sn, rn, hch⟩ := h.ch
  refine LoneTo.goes (n := 60) ?_
  simp only [Try.f10, Option.getD_some]
  s_c stepG_seq
  s_reg
  s_op
  s_c stepG_region_end
  s_c stepG_seq
  s_c stepG_seq
  s_reg
  s_op
  s_op
  s_c stepG_region_end
  s_cond false
  s_c stepG_skip
  s_c stepG_seq
  s_c stepG_seq
  s_reg
  s_op
  s_op
  s_op
  s_op
  s_c stepG_region_end
  s_reg
  s_op
  s_c stepG_region_end
  s_c stepG_seq
  s_reg
  s_stop
  refine LoneTo.step (step_lone_select_send_full (c := C) (v := .int .i64 x) (z' := .int .i64 0) (cap := room) (buf := (iv xs).toArray) (s := sn) (r := rn) (tm := false)
    (stepG_comm (cases := #[scase C (.int .i64 x) (.int .i64 0)]) (blocking := false) (shape := .select) (w' := w) rfl rfl (by decide) (by simp [go_sem, execOp, scase, Act.eval]))
    hch (by rw [List.size_toArray, iv_length]; exact hr)) ?_
  rw [Frame.finish_at]
  walk_nrm
  refine LoneTo.goes (n := 60) ?_
  s_op
  s_op
  s_c stepG_region_end
  s_c stepG_block
  s_cond false
  s_c stepG_seq
  s_reg
  s_op
  s_c stepG_region_end
  s_c stepG_ret'
  s_stop
  refine LoneTo.done ⟨.returned (.bool false), _, rfl, ⟨rfl, ?_⟩, rfl, rfl, rfl, rfl, _, Try.func10, by simp [results, Try.f10, Frame.at]⟩
  rfl
set_option maxRecDepth 100000 in
set_option maxHeartbeats 1000000 in
theorem take_some {w : World} {B C room : Nat} {x : Int} {xs : List Int} (h : BoxAt w B C room (x :: xs)) :
    Calls Try.prog 9 #[.pointer (some ⟨B, 0, none⟩)] w fun e w' => e = .returned (.tuple #[.int .i64 x, .bool true]) ∧ BoxAt w' B C room xs ∧ w.grownBy w' (some C) := by
  refine calls_of_loneTo fun cs => ?_
  have e : Frame.enter Try.prog 9 #[.pointer (some ⟨B, 0, none⟩)] .normal = (base 9).at ⟨#[.pointer (some ⟨B, 0, none⟩), undef, undef, undef, undef, undef, undef, undef, undef, undef, undef, undef, undef, undef, undef, undef, undef], []⟩ [.code (Try.f9.body.getD .skip)] := by
    simp [Frame.enter, Frame.at, Try.func9, base, Try.f9]
  rw [e]
  have c0 := h.c0
  obtain ⟨sn, rn, hch⟩ := h.ch
  refine LoneTo.goes (n := 60) ?_
  simp only [Try.f9, Option.getD_some]
  s_c stepG_seq
  s_reg
  s_op
  s_op
  s_c stepG_region_end
  s_c stepG_seq
  s_c stepG_seq
  s_reg
  s_op
  s_op
  s_c stepG_region_end
  s_cond false
  s_c stepG_skip
  s_c stepG_seq
  s_reg
  s_op
  s_op
  s_op
  s_op
  s_c stepG_region_end
  s_c stepG_seq
  s_reg
  s_stop
  refine LoneTo.step (step_lone_select_recv_buf (c := C) (z := .int .i64 0) (cap := room) (buf := (iv (x :: xs)).toArray) (closed := false) (s := sn) (r := rn) (tm := false)
    (stepG_comm (cases := #[rcase C (.int .i64 0)]) (blocking := false) (shape := .select) (w' := w) rfl rfl (by decide) (by simp [go_sem, execOp, rcase, Act.eval]))
    hch (by simp [iv])) ?_
  rw [Frame.finish_at]
  walk_nrm
  refine LoneTo.goes (n := 60) ?_
  s_op
  s_op
  s_c stepG_region_end
  s_c stepG_block
  s_cond true
  s_c stepG_seq
  s_reg
  s_op
  s_op
  s_c stepG_region_end
  s_c stepG_seq
  s_reg
  s_op
  s_op
  s_op
  s_c stepG_region_end
  s_c stepG_ret'
  s_stop
  refine LoneTo.done ⟨.returned (.tuple #[.int .i64 x, .bool true]), _, rfl, ⟨rfl, ?_⟩, rfl, rfl, rfl, rfl, _, Try.func9, by simp [results, Try.f9, Frame.at, iv]⟩
  rw [show List.take ((iv (x :: xs)).length - 1) (iv (x :: xs)).tail = iv xs from (List.take_of_length_le (by simp [iv])).trans rfl]
  exact ⟨h.turned _ _, grown_setChan _ _ _ _ _ _ _ _⟩
set_option maxRecDepth 100000 in
set_option maxHeartbeats 1000000 in
theorem take_none {w : World} {B C room : Nat} (h : BoxAt w B C room []) :
    Calls Try.prog 9 #[.pointer (some ⟨B, 0, none⟩)] w fun e w' => e = .returned (.tuple #[.int .i64 0, .bool false]) ∧ w' = w := by
  refine calls_of_loneTo fun cs => ?_
  have e : Frame.enter Try.prog 9 #[.pointer (some ⟨B, 0, none⟩)] .normal = (base 9).at ⟨#[.pointer (some ⟨B, 0, none⟩), undef, undef, undef, undef, undef, undef, undef, undef, undef, undef, undef, undef, undef, undef, undef, undef], []⟩ [.code (Try.f9.body.getD .skip)] := by
    simp [Frame.enter, Frame.at, Try.func9, base, Try.f9]
  rw [e]
  have c0 := h.c0
  obtain ⟨sn, rn, hch⟩ := h.ch
  refine LoneTo.goes (n := 60) ?_
  simp only [Try.f9, Option.getD_some]
  s_c stepG_seq
  s_reg
  s_op
  s_op
  s_c stepG_region_end
  s_c stepG_seq
  s_c stepG_seq
  s_reg
  s_op
  s_op
  s_c stepG_region_end
  s_cond false
  s_c stepG_skip
  s_c stepG_seq
  s_reg
  s_op
  s_op
  s_op
  s_op
  s_c stepG_region_end
  s_c stepG_seq
  s_reg
  s_stop
  refine LoneTo.step (step_lone_select_default (c := C) (z := .int .i64 0) (cap := room) (s := sn) (r := rn) (tm := false)
    (stepG_comm (cases := #[rcase C (.int .i64 0)]) (blocking := false) (shape := .select) (w' := w) rfl rfl (by decide) (by simp [go_sem, execOp, rcase, Act.eval]))
    hch) ?_
  rw [Frame.finish_at]
  walk_nrm
  refine LoneTo.goes (n := 60) ?_
  s_op
  s_op
  s_c stepG_region_end
  s_c stepG_block
  s_cond false
  s_c stepG_seq
  s_reg
  s_op
  s_op
  s_op
  s_c stepG_region_end
  s_c stepG_ret'
  s_stop
  refine LoneTo.done ⟨.returned (.tuple #[.int .i64 0, .bool false]), _, rfl, ⟨rfl, ?_⟩, rfl, rfl, rfl, rfl, _, Try.func9, by simp [results, Try.f9, Frame.at]⟩
  rfl
end Go.Proofs.Ytpcohkhdbjimgaa
