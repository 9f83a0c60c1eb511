/- Texts put together by packtpl2.py: MfC, FV, AnyOrd, MfD, MfE, MfF. -/
import Derived.Test.YtbdgcfimbblncaaGreatDoorPkMR1
import Derived.Test.YtbdgcfimbblncaaGreatDoorPkMR2
import Derived.RangeFuncBox
import Derived.RangeFuncLeaves
import Derived.RangeFuncFrom
import Derived.Shelf.Abstract
import Derived.OwnWalkIn
import Derived.TacticsInMore
import Derived.LoopNIn
import Derived.LoopIn
import Derived.Maps.AppendAt
import Derived.Maps.RangeWalk
import Derived.Sort.MapsRangeIn
import Derived.StringKeys
import Derived.Deep.RegionHeld3
import Derived.Maps.Own
section PkMR3_0
/- Sequences and maps of nothing: what the library makes of them, walked. Written by genmfc.py. -/
namespace Go.Proofs.YtbdgcfimbblncaaGreatDoor
open Go.RowKit Go.Shelf
open Go.Maps (Keyed)
set_option linter.unusedVariables false
attribute [local go_sem] Oper.semAt_some

def R0 : Value → Option (DataW Unit × List MemPlace) := fun _ => none
theorem lawS : Keyed Tryz.prog 9 := Keyed.of_law (Go.WideMaps.string_law Tryz.underlying9)
/-- a map without anything -/
def NoMap (w : World) (b : Nat) : Prop := w.ownsMap Tryz.prog 9 R0 b 0 (.map [])
theorem NoMap.made (w : World) : NoMap (w.alloc (.map #[] 0)) w.heap.size := World.ownsMap_made w _ _ _
theorem NoMap.lt {w : World} {b : Nat} (h : NoMap w b) : b < w.heap.size := World.ownsMap.lt h
theorem grown_b {w w' : World} (h : w.grownBy w' none) : Below w.heap.size w w' := ⟨h.os, h.tape, h.output, h.size, fun k hk => h.block k hk (by simp)⟩
theorem NoMap.kept {w w' : World} {b : Nat} (h : NoMap w b) (hb : Below w.heap.size w w') : NoMap w' b := World.ownsMap.kept h (row := none) ⟨hb.os, hb.tape, hb.output, hb.size, fun k hk _ => hb.block k hk⟩ (by simp)

set_option maxRecDepth 100000 in
theorem deletefunc_nil {w : World} {b : Nat} (h : NoMap w b) (fv : Value) :
    Calls Tryz.prog 66 #[.map (some b), fv] w fun e w' => e = .returned (.tuple #[]) ∧ Below w.heap.size w w' := by
  have h' : w.ownsMap Tryz.prog 9 R0 b 0 (.map []) := h
  go_enter Tryz.func66, Tryz.ntmps66
  go_wp2_with (first
    | (at_range; refine wpList_range_own _ rfl _ 92 rfl 9 53 lawS Tryz.underlying92 R0 b 0 _ rfl h' ?_; intro w0 hrg0 hg0 hs0)
    | go_in)
  go_frame
  refine wp_loop_rounds 1 ?_
  rw [rounds_succ]
  go_wp2_with (first
    | (at_next; refine wpList_next_ranges (α := ByteArray) (β := Unit) _ rfl _ rfl 9 lawS R0 Value.string (fun _ => undef) (fun _ _ hk => Maps.keyOf_string_inv Tryz.underlying9 hk) (fun _ _ hR => by cases hR) b w.heap.size 0 _ _ _ rfl hrg0 ?_ ?_)
    | go_in)
  · intro _ _
    go_wp2
    go_end0
    exact ⟨rfl, grown_b hg0⟩
  · intro x c kl y w' cnt' _ _ hR
    cases hR
theorem mvalues_any {w : World} (b : Nat) :
    Calls Tryz.prog 69 #[.map (some b)] w fun e w' => e = .returned (.func (.func 103) #[] #[.pointer (some ⟨w.heap.size, 0, none⟩)]) ∧ w' = w.alloc (.cells #[.map (some b)] 92) := by
  go_enter Tryz.func69, Tryz.ntmps69
  go_wp2_with fail
  go_ret
  exact ⟨rfl, rfl⟩
/-- nothing comes -/
def noEnc : Empty → Array Value := fun x => x.elim
set_option maxRecDepth 100000 in
set_option maxHeartbeats 2000000 in
theorem mseq_stops (n : Nat) (Bs b : Nat) (w : World) (hBs : Bs < w.heap.size) (hc : w.cell? ⟨Bs, 0, none⟩ = some (.map (some b))) (h : NoMap w b) (n₀ : Nat) (hn₀ : n₀ ≤ w.heap.size) :
    SeqStopsK Fence.wide n Tryz.prog 103 #[.pointer (some ⟨Bs, 0, none⟩)] noEnc (Below n₀) (fun _ => True) (fun _ => True) 0 w := by
  intro l J Jx W hW hJ hJx hY h0
  have hBW : W.cell? ⟨Bs, 0, none⟩ = some (.map (some b)) := (hW.cell (p := ⟨Bs, 0, none⟩) hBs).trans hc
  have h' : W.ownsMap Tryz.prog 9 R0 b 0 (.map []) := h.kept hW
  refine callsIn_of_wp Tryz.func103 rfl trivial ?_ rfl
  simp only [Tryz.ntmps103, List.size_toArray, List.length_cons, List.length_nil, Nat.reduceAdd, Nat.reduceSub, Array.replicate_succ, Array.replicate_zero, List.push_toArray, List.append_toArray, List.nil_append, List.cons_append]
  gi_wp2_with (gi_at_range; refine wpListIn_range_own _ rfl _ 92 rfl 9 53 lawS Tryz.underlying92 R0 b 0 _ rfl h' ?_; intro w0 hrg0 hg0 hs0)
  go_frame
  have hJ0 : J [] w0 := hJ [] W w0 none h0 hg0 (by simp)
  refine wpIn_loop_rounds 1 ?_
  rw [roundsIn_succ]
  gi_wp2_with (gi_at_next; refine wpListIn_next_ranges (α := ByteArray) (β := Unit) _ rfl _ rfl 9 lawS R0 Value.string (fun _ => undef) (fun _ _ hk => Maps.keyOf_string_inv Tryz.underlying9 hk) (fun _ _ hR => by cases hR) b W.heap.size 0 _ _ _ rfl hrg0 ?_ ?_)
  · intro _ _
    gi_wp2
    go_end0
    exact ⟨⟨_, rfl⟩, .inl ⟨[], trivial, hJ0⟩⟩
  · intro x c kl y w' cnt' _ _ hR
    cases hR

theorem svaluesE {w : World} (a : Option Addr) (n c : Nat) :
    Calls Tryz.prog 95 #[.slice a n c] w fun e w' => e = .returned (.func (.func 121) #[] #[.pointer (some ⟨w.heap.size, 0, none⟩)]) ∧ w' = w.alloc (.cells #[.slice a n c] 22) := by
  go_enter Tryz.func95, Tryz.ntmps95
  go_wp2_with fail
  go_ret
  exact ⟨rfl, rfl⟩
set_option maxRecDepth 100000 in
set_option maxHeartbeats 2000000 in
theorem sseqE (n : Nat) (Bs : Nat) (sa : Option Addr) (cap : Nat) (w : World) (hBs : Bs < w.heap.size) (hc : w.cell? ⟨Bs, 0, none⟩ = some (.slice sa 0 cap)) (n₀ : Nat) :
    SeqStopsK Fence.wide n Tryz.prog 121 #[.pointer (some ⟨Bs, 0, none⟩)] noEnc (Below n₀) (fun _ => True) (fun _ => True) 0 w := by
  intro l J Jx W hW hJ hJx hY h0
  have hBW : W.cell? ⟨Bs, 0, none⟩ = some (.slice sa 0 cap) := (hW.cell (p := ⟨Bs, 0, none⟩) hBs).trans hc
  refine callsIn_of_wp Tryz.func121 rfl trivial ?_ rfl
  simp only [Tryz.ntmps121, List.size_toArray, List.length_cons, List.length_nil, Nat.reduceAdd, Nat.reduceSub, Array.replicate_succ, Array.replicate_zero, List.push_toArray, List.append_toArray, List.nil_append, List.cons_append]
  gi_wp2
  gi_loopw [7] (fun i wr => i = .int .i64 0 ∧ J [] wr) (fun _ _ => 0)
  case atStart => exact ⟨rfl, h0⟩
  case round =>
    obtain ⟨rfl, hJs⟩ := hrel
    gi_wp2
    go_end0
    exact ⟨⟨_, rfl⟩, .inl ⟨[], trivial, hJs⟩⟩
set_option maxRecDepth 100000 in
set_option maxHeartbeats 2000000 in
theorem append0E (n : Nat) (hn : 3 ≤ n) {w : World} {gf : Nat} {lb : Array Value} (eg : ∀ args w, (callFunc gf args).run Tryz.prog w = .ok (.enter gf args) w)
    (hseq : ∀ m, 1 ≤ m → SeqStopsK Fence.wide m Tryz.prog gf lb noEnc (Below w.heap.size) (fun _ => True) (fun _ => True) 0 w) :
    CallsIn Fence.wide n Tryz.prog 126 #[.slice none 0 0, .func (.func gf) #[] lb] w fun e W' => (∃ a c, e = .returned (.slice a 0 c)) ∧ Below w.heap.size w W' := by
  have h1 : 1 ≤ n := by omega
  refine callsIn_of_wp_marks Tryz.func126 rfl trivial ?_ rfl
  simp only [Tryz.ntmps126, List.size_toArray, List.length_cons, List.length_nil, Nat.reduceAdd, Nat.reduceSub, Array.replicate_succ, Array.replicate_zero, List.push_toArray, List.append_toArray, List.nil_append, List.cons_append]
  gi_wp2
  have bO := Boxed.new w 22 (.slice none 0 0)
  have hB0 : Below w.heap.size w (w.alloc (.cells #[.slice none 0 0] 22)) := (Below.refl _ w).alloc (Nat.le_refl _) _
  refine wpIn_rangeFunc_ownF (α := Empty) rfl h1 (gf := gf) (lb := lb) rfl trivial eg
    (hseq (n - 1) (by omega)) belowK_t (belowK_b (by simp)) hB0 (fun x => x.elim)
    (fun pre W => (∃ v, Boxed W w.heap.size 22 v ∧ W.ownsRow w.heap.size 53 9 v 0 [] ∧ True) ∧ Below w.heap.size w W)
    (fun _ _ _ => False)
    (OwnFrom.and (Own.from (holdsRow_own w.heap.size w.heap.size 22 53 9 (fun pre : List Empty => 0) (fun pre => []) (fun pre v => True)) _) (ownFrom_below (Nat.le_refl _) (by simp)))
    (fun _ _ _ _ _ hs _ _ => hs)
    ⟨⟨_, bO, World.ownsRow_nil _ _ _ _, trivial⟩, hB0⟩
    (fun x => x.elim) (fun _ x => x.elim) (fun _ _ x => x.elim) ?done ?stop
  case done =>
    rintro D ys W hD _ ⟨⟨v, hv, hrow, _⟩, hB⟩ hK
    have hc := hv.cell
    have hvs : ∃ a c, v = .slice a 0 c := by
      rcases hrow.2 with ⟨rfl, _⟩ | ⟨g, cap, cur, rfl, _⟩
      · exact ⟨_, _, rfl⟩
      · exact ⟨_, _, rfl⟩
    gi_wp2
    refine ⟨by simp, .inl ⟨_, _, rfl, run_takeDeferred hK, ?_⟩⟩
    obtain ⟨a, c, rfl⟩ := hvs
    exact ⟨_, results_tmp rfl _ _ _, ⟨a, c, rfl⟩, hB.trans (belowK_b (w := w) (Nat.le_refl _) W D _ _ (by simp at hD; omega) hK rfl rfl)⟩
  case stop =>
    rintro D c pre W _ _ h _
    exact h.elim
theorem collect0E {w : World} {gf : Nat} {lb : Array Value} (eg : ∀ args w, (callFunc gf args).run Tryz.prog w = .ok (.enter gf args) w)
    (hseq : ∀ m, 1 ≤ m → SeqStopsK Fence.wide m Tryz.prog gf lb noEnc (Below w.heap.size) (fun _ => True) (fun _ => True) 0 w) :
    Calls Tryz.prog 101 #[.func (.func gf) #[] lb] w fun e W' => (∃ a c, e = .returned (.slice a 0 c)) ∧ Below w.heap.size w W' := by
  have HA := Lib.hid (callsIn_wide.1 (append0E 3 (by omega) eg hseq))
  clear hseq
  go_enter Tryz.func101, Tryz.ntmps101
  go_wp2_with fail
  refine HA.out.mono ?_
  rintro e w1 ⟨⟨a, c, rfl⟩, hb⟩
  have HB := Lib.hid hb
  clear hb
  go_wp2_with fail
  go_ret
  exact ⟨⟨_, _, rfl⟩, HB.out⟩

theorem svaluesS {w : World} (a : Option Addr) (n c : Nat) :
    Calls Tryz.prog 97 #[.slice a n c] w fun e w' => e = .returned (.func (.func 124) #[] #[.pointer (some ⟨w.heap.size, 0, none⟩)]) ∧ w' = w.alloc (.cells #[.slice a n c] 46) := by
  go_enter Tryz.func97, Tryz.ntmps97
  go_wp2_with fail
  go_ret
  exact ⟨rfl, rfl⟩
set_option maxRecDepth 100000 in
set_option maxHeartbeats 2000000 in
theorem sseqS (n : Nat) (Bs : Nat) (sa : Option Addr) (cap : Nat) (w : World) (hBs : Bs < w.heap.size) (hc : w.cell? ⟨Bs, 0, none⟩ = some (.slice sa 0 cap)) (n₀ : Nat) :
    SeqStopsK Fence.wide n Tryz.prog 124 #[.pointer (some ⟨Bs, 0, none⟩)] noEnc (Below n₀) (fun _ => True) (fun _ => True) 0 w := by
  intro l J Jx W hW hJ hJx hY h0
  have hBW : W.cell? ⟨Bs, 0, none⟩ = some (.slice sa 0 cap) := (hW.cell (p := ⟨Bs, 0, none⟩) hBs).trans hc
  refine callsIn_of_wp Tryz.func124 rfl trivial ?_ rfl
  simp only [Tryz.ntmps124, List.size_toArray, List.length_cons, List.length_nil, Nat.reduceAdd, Nat.reduceSub, Array.replicate_succ, Array.replicate_zero, List.push_toArray, List.append_toArray, List.nil_append, List.cons_append]
  gi_wp2
  gi_loopw [7] (fun i wr => i = .int .i64 0 ∧ J [] wr) (fun _ _ => 0)
  case atStart => exact ⟨rfl, h0⟩
  case round =>
    obtain ⟨rfl, hJs⟩ := hrel
    gi_wp2
    go_end0
    exact ⟨⟨_, rfl⟩, .inl ⟨[], trivial, hJs⟩⟩
set_option maxRecDepth 100000 in
set_option maxHeartbeats 2000000 in
theorem append0S (n : Nat) (hn : 3 ≤ n) {w : World} {gf : Nat} {lb : Array Value} (eg : ∀ args w, (callFunc gf args).run Tryz.prog w = .ok (.enter gf args) w)
    (hseq : ∀ m, 1 ≤ m → SeqStopsK Fence.wide m Tryz.prog gf lb noEnc (Below w.heap.size) (fun _ => True) (fun _ => True) 0 w) :
    CallsIn Fence.wide n Tryz.prog 141 #[.slice none 0 0, .func (.func gf) #[] lb] w fun e W' => (∃ a c, e = .returned (.slice a 0 c)) ∧ Below w.heap.size w W' := by
  have h1 : 1 ≤ n := by omega
  refine callsIn_of_wp_marks Tryz.func141 rfl trivial ?_ rfl
  simp only [Tryz.ntmps141, List.size_toArray, List.length_cons, List.length_nil, Nat.reduceAdd, Nat.reduceSub, Array.replicate_succ, Array.replicate_zero, List.push_toArray, List.append_toArray, List.nil_append, List.cons_append]
  gi_wp2
  have bO := Boxed.new w 46 (.slice none 0 0)
  have hB0 : Below w.heap.size w (w.alloc (.cells #[.slice none 0 0] 46)) := (Below.refl _ w).alloc (Nat.le_refl _) _
  refine wpIn_rangeFunc_ownF (α := Empty) rfl h1 (gf := gf) (lb := lb) rfl trivial eg
    (hseq (n - 1) (by omega)) belowK_t (belowK_b (by simp)) hB0 (fun x => x.elim)
    (fun pre W => (∃ v, Boxed W w.heap.size 46 v ∧ W.ownsRow w.heap.size 9 1 v 0 [] ∧ True) ∧ Below w.heap.size w W)
    (fun _ _ _ => False)
    (OwnFrom.and (Own.from (holdsRow_own w.heap.size w.heap.size 46 9 1 (fun pre : List Empty => 0) (fun pre => []) (fun pre v => True)) _) (ownFrom_below (Nat.le_refl _) (by simp)))
    (fun _ _ _ _ _ hs _ _ => hs)
    ⟨⟨_, bO, World.ownsRow_nil _ _ _ _, trivial⟩, hB0⟩
    (fun x => x.elim) (fun _ x => x.elim) (fun _ _ x => x.elim) ?done ?stop
  case done =>
    rintro D ys W hD _ ⟨⟨v, hv, hrow, _⟩, hB⟩ hK
    have hc := hv.cell
    have hvs : ∃ a c, v = .slice a 0 c := by
      rcases hrow.2 with ⟨rfl, _⟩ | ⟨g, cap, cur, rfl, _⟩
      · exact ⟨_, _, rfl⟩
      · exact ⟨_, _, rfl⟩
    gi_wp2
    refine ⟨by simp, .inl ⟨_, _, rfl, run_takeDeferred hK, ?_⟩⟩
    obtain ⟨a, c, rfl⟩ := hvs
    exact ⟨_, results_tmp rfl _ _ _, ⟨a, c, rfl⟩, hB.trans (belowK_b (w := w) (Nat.le_refl _) W D _ _ (by simp at hD; omega) hK rfl rfl)⟩
  case stop =>
    rintro D c pre W _ _ h _
    exact h.elim
theorem collect0S {w : World} {gf : Nat} {lb : Array Value} (eg : ∀ args w, (callFunc gf args).run Tryz.prog w = .ok (.enter gf args) w)
    (hseq : ∀ m, 1 ≤ m → SeqStopsK Fence.wide m Tryz.prog gf lb noEnc (Below w.heap.size) (fun _ => True) (fun _ => True) 0 w) :
    Calls Tryz.prog 122 #[.func (.func gf) #[] lb] w fun e W' => (∃ a c, e = .returned (.slice a 0 c)) ∧ Below w.heap.size w W' := by
  have HA := Lib.hid (callsIn_wide.1 (append0S 3 (by omega) eg hseq))
  clear hseq
  go_enter Tryz.func122, Tryz.ntmps122
  go_wp2_with fail
  refine HA.out.mono ?_
  rintro e w1 ⟨⟨a, c, rfl⟩, hb⟩
  have HB := Lib.hid hb
  clear hb
  go_wp2_with fail
  go_ret
  exact ⟨⟨_, _, rfl⟩, HB.out⟩

set_option maxRecDepth 100000 in
theorem len64_0 (w : World) : Calls Tryz.prog 152 #[.int .u64 0] w fun e w' => (∃ z : Int, e = .returned (.int .i64 z)) ∧ w' = w := by
  go_enter Tryz.func152, Tryz.ntmps152
  go_wp2_with fail
  go_ret
  exact ⟨⟨_, rfl⟩, rfl⟩
set_option maxRecDepth 100000 in
theorem blen_0 (w : World) : Calls Tryz.prog 128 #[.int .u64 0] w fun e w' => (∃ z : Int, e = .returned (.int .i64 z)) ∧ w' = w := by
  go_enter Tryz.func128, Tryz.ntmps128
  go_wp2_with fail
  refine (len64_0 w).mono ?_
  rintro e w1 ⟨⟨z, rfl⟩, rfl⟩
  go_wp2_with fail
  go_ret
  exact ⟨⟨_, rfl⟩, rfl⟩

set_option maxRecDepth 100000 in
theorem ins0E (a : Option Addr) (c : Nat) (cf : Value) (w : World) : Calls Tryz.prog 143 #[.slice a 0 c, .int .i64 0, .int .i64 0, cf] w fun e w' => e = .returned (.tuple #[]) ∧ w' = w := by
  go_enter Tryz.func143, Tryz.ntmps143
  go_wp2_with fail
  refine wp_loop_rounds 1 ?_
  rw [rounds_succ]
  go_wp2_with fail
  go_end0
  exact ⟨rfl, rfl⟩
set_option maxRecDepth 100000 in
theorem pdq0E (a : Option Addr) (c : Nat) (z : Int) (cf : Value) (w : World) : Calls Tryz.prog 127 #[.slice a 0 c, .int .i64 0, .int .i64 0, .int .i64 z, cf] w fun e w' => e = .returned (.tuple #[]) ∧ w' = w := by
  have HI := Lib.hid (ins0E a c cf w)
  go_enter Tryz.func127, Tryz.ntmps127
  go_wp2_with fail
  refine wp_loop_rounds 1 ?_
  rw [rounds_succ]
  go_wp2_with fail
  refine HI.out.mono ?_
  rintro e w1 ⟨rfl, rfl⟩
  go_wp2_with fail
  refine bodyPost_ret (results_none rfl _ _ _) rfl ?_
  exact ⟨rfl, rfl⟩
set_option maxRecDepth 100000 in
theorem sort0E (a : Option Addr) (c : Nat) (cf : Value) (w : World) : Calls Tryz.prog 102 #[.slice a 0 c, cf] w fun e w' => e = .returned (.tuple #[]) ∧ w' = w := by
  have HL := Lib.hid (blen_0 w)
  go_enter Tryz.func102, Tryz.ntmps102
  go_wp2_with fail
  refine HL.out.mono ?_
  rintro e w1 ⟨⟨z, rfl⟩, rfl⟩
  have HP := Lib.hid (pdq0E a c z cf w1)
  go_wp2_with fail
  refine HP.out.mono ?_
  rintro e w2 ⟨rfl, rfl⟩
  go_wp2_with fail
  go_end0
  exact ⟨rfl, rfl⟩

set_option maxRecDepth 100000 in
theorem ins0S (a : Option Addr) (c : Nat) (w : World) : Calls Tryz.prog 159 #[.slice a 0 c, .int .i64 0, .int .i64 0] w fun e w' => e = .returned (.tuple #[]) ∧ w' = w := by
  go_enter Tryz.func159, Tryz.ntmps159
  go_wp2_with fail
  refine wp_loop_rounds 1 ?_
  rw [rounds_succ]
  go_wp2_with fail
  go_end0
  exact ⟨rfl, rfl⟩
set_option maxRecDepth 100000 in
theorem pdq0S (a : Option Addr) (c : Nat) (z : Int) (w : World) : Calls Tryz.prog 142 #[.slice a 0 c, .int .i64 0, .int .i64 0, .int .i64 z] w fun e w' => e = .returned (.tuple #[]) ∧ w' = w := by
  have HI := Lib.hid (ins0S a c w)
  go_enter Tryz.func142, Tryz.ntmps142
  go_wp2_with fail
  refine wp_loop_rounds 1 ?_
  rw [rounds_succ]
  go_wp2_with fail
  refine HI.out.mono ?_
  rintro e w1 ⟨rfl, rfl⟩
  go_wp2_with fail
  refine bodyPost_ret (results_none rfl _ _ _) rfl ?_
  exact ⟨rfl, rfl⟩
set_option maxRecDepth 100000 in
theorem sort0S (a : Option Addr) (c : Nat) (w : World) : Calls Tryz.prog 123 #[.slice a 0 c] w fun e w' => e = .returned (.tuple #[]) ∧ w' = w := by
  have HL := Lib.hid (blen_0 w)
  go_enter Tryz.func123, Tryz.ntmps123
  go_wp2_with fail
  refine HL.out.mono ?_
  rintro e w1 ⟨⟨z, rfl⟩, rfl⟩
  have HP := Lib.hid (pdq0S a c z w1)
  go_wp2_with fail
  refine HP.out.mono ?_
  rintro e w2 ⟨rfl, rfl⟩
  go_wp2_with fail
  go_end0
  exact ⟨rfl, rfl⟩

set_option maxRecDepth 100000 in
theorem sorted0E {w : World} {gf : Nat} {lb : Array Value} (eg : ∀ args w, (callFunc gf args).run Tryz.prog w = .ok (.enter gf args) w)
    (hseq : ∀ m, 1 ≤ m → SeqStopsK Fence.wide m Tryz.prog gf lb noEnc (Below w.heap.size) (fun _ => True) (fun _ => True) 0 w) (cf : Value) :
    Calls Tryz.prog 68 #[.func (.func gf) #[] lb, cf] w fun e W' => (∃ a c, e = .returned (.slice a 0 c)) ∧ Below w.heap.size w W' := by
  have HA := Lib.hid (collect0E eg hseq)
  clear hseq
  go_enter Tryz.func68, Tryz.ntmps68
  go_wp2_with fail
  refine HA.out.mono ?_
  rintro e w1 ⟨⟨a, c, rfl⟩, hb⟩
  have HB := Lib.hid hb
  have HS := Lib.hid (sort0E a c cf w1)
  clear hb
  go_wp2_with fail
  refine HS.out.mono ?_
  rintro e w2 ⟨rfl, rfl⟩
  go_wp2_with fail
  go_ret
  exact ⟨⟨_, _, rfl⟩, HB.out⟩

set_option maxRecDepth 100000 in
theorem sorted0S {w : World} {gf : Nat} {lb : Array Value} (eg : ∀ args w, (callFunc gf args).run Tryz.prog w = .ok (.enter gf args) w)
    (hseq : ∀ m, 1 ≤ m → SeqStopsK Fence.wide m Tryz.prog gf lb noEnc (Below w.heap.size) (fun _ => True) (fun _ => True) 0 w) :
    Calls Tryz.prog 96 #[.func (.func gf) #[] lb] w fun e W' => (∃ a c, e = .returned (.slice a 0 c)) ∧ Below w.heap.size w W' := by
  have HA := Lib.hid (collect0S eg hseq)
  clear hseq
  go_enter Tryz.func96, Tryz.ntmps96
  go_wp2_with fail
  refine HA.out.mono ?_
  rintro e w1 ⟨⟨a, c, rfl⟩, hb⟩
  have HB := Lib.hid hb
  have HS := Lib.hid (sort0S a c w1)
  clear hb
  go_wp2_with fail
  refine HS.out.mono ?_
  rintro e w2 ⟨rfl, rfl⟩
  go_wp2_with fail
  go_ret
  exact ⟨⟨_, _, rfl⟩, HB.out⟩

end Go.Proofs.YtbdgcfimbblncaaGreatDoor
end PkMR3_0
section PkMR3_1
/- Values told of by a property; a row that a call owns, where its block stands. -/
namespace Go.Proofs.YtbdgcfimbblncaaGreatDoor
open Go.RowKit
set_option linter.unusedVariables false

/-- values that are known, or told of by a property -/
def FV (vals : Nat → Option Value) (sp : Value → World → Prop) (j : Nat) (u : Value) (w : World) : Prop := match vals j with | some v => u = v | none => sp u w
theorem FV.mono {vals : Nat → Option Value} {sp : Value → World → Prop} {w w' : World} (h : ∀ u, sp u w → sp u w') : ∀ j y, FV vals sp j y w → FV vals sp j y w' := fun j y hy => by
  unfold FV at hy ⊢
  split at hy
  · exact hy
  · exact h y hy

/-- the same, each operation with a property of its own -/
def FV2 (vals : Nat → Option Value) (sp : Nat → Value → World → Prop) (j : Nat) (u : Value) (w : World) : Prop := match vals j with | some v => u = v | none => sp j u w
theorem FV2.mono {vals : Nat → Option Value} {sp : Nat → Value → World → Prop} {w w' : World} (h : ∀ j u, sp j u w → sp j u w') : ∀ j y, FV2 vals sp j y w → FV2 vals sp j y w' := fun j y hy => by
  unfold FV2 at hy ⊢
  split at hy
  · exact hy
  · exact h j y hy
theorem own_heap {w w' : World} {base : Nat} {e : TypeId} {size : Nat} {v : Value} {n : Nat} {xs : List Value} (h : w.ownsRow base e size v n xs) (hb : ∀ g, v.ownBlock = some g → w'.heap[g]? = w.heap[g]?) : w'.ownsRow base e size v n xs := by
  refine ⟨h.1, ?_⟩
  rcases h.2 with h0 | ⟨g, cap, cur, h1, h2, h3, h4⟩
  · exact .inl h0
  · refine .inr ⟨g, cap, cur, h1, h2, ?_, h4⟩
    rw [hb g (by rw [h1]; rfl)]; exact h3
end Go.Proofs.YtbdgcfimbblncaaGreatDoor
end PkMR3_1
section PkMR3_2
/- A region whose operations come up in any order: walked once for each operation, not once for each order. -/
namespace Go.Proofs.YtbdgcfimbblncaaGreatDoor
open Go.RowKit
set_option linter.unusedVariables false

def slotOf (ops : Array Oper) (i : Nat) : Option Tmp := (ops[i]?).bind (·.dst)
def upd (v : Nat → Value) (i : Nat) (x : Value) : Nat → Value := fun j => if j = i then x else v j
/-- a state in which the first k operations have left these values -/
def fill (ops : Array Oper) (a : Act) (v : Nat → Value) : Nat → Act
  | 0 => a
  | k + 1 => (fill ops a v k).put (slotOf ops k) (v k)
theorem put_put (a : Act) (d : Option Tmp) (x y : Value) : (a.put d x).put d y = a.put d y := by
  cases d with
  | none => rfl
  | some d => simp [Act.put]
theorem put_self (a : Act) (d : Tmp) : a.put (some d) (a.tmps.getD d undef) = a := by
  obtain ⟨t, f⟩ := a
  show (⟨t.setIfInBounds d (t.getD d undef), f⟩ : Act) = ⟨t, f⟩
  congr 1
  apply Array.ext
  · simp
  · intro i h1 h2
    rw [Array.getElem_setIfInBounds]
    split
    · rename_i e; subst e; simp [h2]
    · rfl
theorem fill_ext {ops : Array Oper} {a : Act} {v u : Nat → Value} : ∀ k, (∀ j, j < k → v j = u j) → fill ops a v k = fill ops a u k
  | 0, _ => rfl
  | k + 1, h => by rw [fill, fill, fill_ext k (fun j hj => h j (by omega)), h k (by omega)]
theorem fill_self {ops : Array Oper} {a : Act} : ∀ k, fill ops a (fun i => match slotOf ops i with | some d => a.tmps.getD d undef | none => undef) k = a
  | 0 => rfl
  | k + 1 => by
    rw [fill, fill_self k]
    cases h : slotOf ops k with
    | none => rfl
    | some d => exact put_self a d
theorem fill_upd {ops : Array Oper} {a : Act} {v : Nat → Value} {n : Nat} (hne : ∀ i j d, i < n → j < n → slotOf ops i = some d → slotOf ops j = some d → i = j) {i : Nat} (x : Value) :
    ∀ k, i < k → k ≤ n → (fill ops a v k).put (slotOf ops i) x = fill ops a (upd v i x) k
  | 0, h, _ => by omega
  | k + 1, h, hk => by
    rcases Nat.lt_or_ge i k with g | g
    · have hx : upd v i x k = v k := by unfold upd; rw [if_neg (by omega)]
      rw [fill, fill, ← fill_upd hne x k g (by omega), hx, Act.put_comm _ _ _ (fun d hd hd2 => by have := hne i k d (by omega) (by omega) hd2 hd; omega)]
    · obtain rfl : i = k := by omega
      have hx : upd v i x i = x := by unfold upd; rw [if_pos rfl]
      rw [fill, fill, put_put, hx, show fill ops a (upd v i x) i = fill ops a v i from fill_ext i (fun j hj => by unfold upd; rw [if_neg (by omega)])]

theorem filter_less {α : Type} {p q : α → Bool} (h : ∀ x, q x = true → p x = true) {y : α} (hy : p y = true) (hn : q y = false) : ∀ l : List α, y ∈ l → (l.filter q).length < (l.filter p).length
  | [], hm => by cases hm
  | x :: l, hm => by
    have hle : (l.filter q).length ≤ (l.filter p).length := by
      clear hm
      induction l with
      | nil => exact Nat.le_refl _
      | cons z l ih =>
        cases hq : q z with
        | true => rw [List.filter_cons_of_pos hq, List.filter_cons_of_pos (h z hq)]; simpa using ih
        | false =>
          rw [List.filter_cons_of_neg (by simp [hq])]
          cases hp : p z with
          | true => rw [List.filter_cons_of_pos hp, List.length_cons]; omega
          | false => rw [List.filter_cons_of_neg (by simp [hp])]; exact ih
    rcases List.mem_cons.1 hm with rfl | hm
    · rw [List.filter_cons_of_neg (by simp [hn]), List.filter_cons_of_pos hy, List.length_cons]; omega
    · have ih := filter_less h hy hn l hm
      cases hq : q x with
      | true => rw [List.filter_cons_of_pos hq, List.filter_cons_of_pos (h x hq), List.length_cons, List.length_cons]; omega
      | false =>
        rw [List.filter_cons_of_neg (by simp [hq])]
        cases hp : p x with
        | true => rw [List.filter_cons_of_pos hp, List.length_cons]; omega
        | false => rw [List.filter_cons_of_neg (by simp [hp])]; exact ih

/-- The law. J: what is held of the world all along; F i x w: what is known of operation i's value once it has come up. -/
theorem wp_region_fill {P : Program} {ops : Array Oper} {Q : Exit → Act → World → Prop} {id : Nat} {a : Act} {w : World} (hm : P.follows .mixedOrders = true)
    (hne : ((List.range ops.size).all fun i => (List.range ops.size).all fun j => decide (i = j) || (slotOf ops i == none) || !(slotOf ops i == slotOf ops j)) = true)
    (hac : ((List.range ops.size).all fun i => (ops[i]?).all fun (o : Oper) => o.after.all fun (e : Edge) => !Region.binds .any e || decide (e.on < i)) = true)
    (J : World → Prop) (F : Nat → Value → World → Prop) (hJ : J w.drew)
    (step : ∀ (i : Nat) (o : Oper), ops[i]? = some o → ∀ (v : Nat → Value) (w1 : World) (K : Act → World → Prop), J w1 → (∀ e : Edge, e ∈ o.after → Region.binds .any e = true → F e.on (v e.on) w1) →
      (∀ x w2, J w2 → F i x w2 → (∀ j y, F j y w1 → F j y w2) → ∀ a2, a2 = (fill ops a v ops.size).put o.dst x → K a2 w2) →
      if Region.wanted o (yielded ops (fill ops a v ops.size).tmps) = true then Oper.wp P o (fill ops a v ops.size) w1 K Q else K ((fill ops a v ops.size).put o.dst undef) w1)
    (last : ∀ (v : Nat → Value) (w1 : World), J w1 → (∀ i, i < ops.size → F i (v i) w1) → Q .normal (fill ops a v ops.size) w1) : (Code.region id ops true).wp P Q a w := by
  have hne2 : ∀ i j d, i < ops.size → j < ops.size → slotOf ops i = some d → slotOf ops j = some d → i = j := by
    intro i j d hi hj h1 h2
    have := List.all_eq_true.1 (List.all_eq_true.1 hne i (List.mem_range.2 hi)) j (List.mem_range.2 hj)
    rw [h1, h2] at this
    simpa using this
  have hac2 : ∀ (i : Nat) (o : Oper), ops[i]? = some o → ∀ e : Edge, e ∈ o.after → Region.binds .any e = true → e.on < i := by
    intro i o ho e he hb
    have hlt := (Array.getElem?_eq_some_iff.1 ho).1
    have := List.all_eq_true.1 hac i (List.mem_range.2 hlt)
    rw [ho] at this
    have h3 : (o.after.all fun (e : Edge) => !Region.binds .any e || decide (e.on < i)) = true := this
    have h2 := Array.all_eq_true_iff_forall_mem.1 h3 e he
    rw [hb] at h2
    simpa using h2
  refine wp_region_any hm ?_
  have key : ∀ (fuel : Nat) (listed : Array Bool) (v : Nat → Value) (w1 : World), listed.size = ops.size → J w1 → (∀ i, listed.getD i false = true → F i (v i) w1) →
      ((List.range ops.size).filter fun i => !listed.getD i true).length ≤ fuel → wpAny P .any ops Q fuel listed (fill ops a v ops.size) w1 := by
    intro fuel
    induction fuel with
    | zero =>
      intro listed v w1 hsz hj hf hc
      have hall : ∀ i, i < ops.size → listed.getD i true = true := by
        intro i hi
        cases hl : listed.getD i true with
        | true => rfl
        | false =>
          have : i ∈ (List.range ops.size).filter fun i => !listed.getD i true := List.mem_filter.2 ⟨List.mem_range.2 hi, by rw [hl]; rfl⟩
          rw [List.eq_nil_of_length_eq_zero (by omega : ((List.range ops.size).filter fun i => !listed.getD i true).length = 0)] at this
          cases this
      have hr : Region.ready .any ops listed = [] := by
        rw [List.eq_nil_iff_forall_not_mem]
        intro i hi
        obtain ⟨h1, o, ho, _⟩ := mem_ready.1 hi
        rw [hall i (Array.getElem?_eq_some_iff.1 ho).1] at h1
        cases h1
      refine ⟨hr, last v w1 hj fun i hi => hf i ?_⟩
      have := hall i hi
      simpa [hsz, hi] using this
    | succ fuel ih =>
      intro listed v w1 hsz hj hf hc
      refine ⟨fun hr => last v w1 hj fun i hi => hf i ?_, fun i hi => ?_⟩
      · have : ∀ k, k < ops.size → listed.getD k false = true := by
          intro k
          induction k using Nat.strongRecOn with
          | _ k ihk =>
            intro hk
            cases hl : listed.getD k false with
            | true => rfl
            | false =>
              exfalso
              have hmem : k ∈ Region.ready .any ops listed := mem_ready.2 ⟨by simpa [hsz, hk] using hl, ops[k], by simp [hk], fun e he hb => ihk e.on (hac2 k _ (by simp [hk]) e he hb) (by have := hac2 k _ (by simp [hk] : ops[k]? = some ops[k]) e he hb; omega)⟩
              rw [hr] at hmem
              cases hmem
        exact this i hi
      · obtain ⟨h1, o, ho, h2⟩ := mem_ready.1 hi
        have hlt : i < ops.size := (Array.getElem?_eq_some_iff.1 ho).1
        have hst := step i o ho v w1 (wpAny P .any ops Q fuel (listed.setIfInBounds i true)) hj (fun e he hb => hf e.on (h2 e he hb)) (fun x w2 hj2 hF hmono a2 ha2 => by
          have hso : slotOf ops i = o.dst := by unfold slotOf; rw [ho]; rfl
          rw [ha2, ← hso, fill_upd hne2 x ops.size hlt (Nat.le_refl _)]
          refine ih (listed.setIfInBounds i true) (upd v i x) w2 (by simpa using hsz) hj2 (fun j hjl => ?_) ?_
          · unfold upd
            by_cases e : j = i
            · rw [if_pos e, e]; exact hF
            · rw [if_neg e]
              refine hmono j _ (hf j ?_)
              have hji : ¬ i = j := fun h => e h.symm
              simpa [Array.getD_eq_getD_getElem?, Array.getElem?_setIfInBounds, hji] using hjl
          · have hlt3 := filter_less (p := fun i => !listed.getD i true) (q := fun j => !(listed.setIfInBounds i true).getD j true) (y := i) (fun j hjq => by
              by_cases e : i = j
              · subst e; simpa using h1
              · simpa [Array.getD_eq_getD_getElem?, Array.getElem?_setIfInBounds, e] using hjq) (by simpa using h1) (by simp [Array.getD_eq_getD_getElem?, hsz, hlt]) (List.range ops.size) (List.mem_range.2 hlt)
            omega)
        unfold wpOp
        rw [ho]
        show if Region.wanted o (yielded ops (fill ops a v ops.size).tmps) = true then _ else _
        split at hst
        · rename_i hw; rw [if_pos hw]; exact .inl hst
        · rename_i hw; rw [if_neg hw]; exact hst
  have h0 := key ops.size (Array.replicate ops.size false) (fun i => match slotOf ops i with | some d => a.tmps.getD d undef | none => undef) w.drew (by simp) hJ (fun i hi => by
    exfalso
    by_cases hlt : i < ops.size <;> simp [Array.getD_eq_getD_getElem?, hlt] at hi) (Nat.le_trans (List.length_filter_le _ _) (by simp))
  rw [fill_self] at h0
  exact h0

/-- The law at its widest: I L v w: what holds when the operations of L have come up and left the values v. -/
theorem wp_region_inv {P : Program} {ops : Array Oper} {Q : Exit → Act → World → Prop} {id : Nat} {a : Act} {w : World} (hm : P.follows .mixedOrders = true)
    (hne : ((List.range ops.size).all fun i => (List.range ops.size).all fun j => decide (i = j) || (slotOf ops i == none) || !(slotOf ops i == slotOf ops j)) = true)
    (hac : ((List.range ops.size).all fun i => (ops[i]?).all fun (o : Oper) => o.after.all fun (e : Edge) => !Region.binds .any e || decide (e.on < i)) = true)
    (I : (Nat → Bool) → (Nat → Value) → World → Prop) (h0 : ∀ v, I (fun _ => false) v w.drew)
    (step : ∀ (i : Nat) (o : Oper), ops[i]? = some o → ∀ (L : Nat → Bool) (v : Nat → Value) (w1 : World) (K : Act → World → Prop), I L v w1 → L i = false → (∀ e : Edge, e ∈ o.after → Region.binds .any e = true → L e.on = true) →
      (∀ x w2, I (fun j => L j || decide (j = i)) (upd v i x) w2 → ∀ a2, a2 = (fill ops a v ops.size).put o.dst x → K a2 w2) →
      if Region.wanted o (yielded ops (fill ops a v ops.size).tmps) = true then Oper.wp P o (fill ops a v ops.size) w1 K Q else K ((fill ops a v ops.size).put o.dst undef) w1)
    (last : ∀ (L : Nat → Bool) (v : Nat → Value) (w1 : World), I L v w1 → (∀ i, i < ops.size → L i = true) → Q .normal (fill ops a v ops.size) w1) : (Code.region id ops true).wp P Q a w := by
  have hne2 : ∀ i j d, i < ops.size → j < ops.size → slotOf ops i = some d → slotOf ops j = some d → i = j := by
    intro i j d hi hj h1 h2
    have := List.all_eq_true.1 (List.all_eq_true.1 hne i (List.mem_range.2 hi)) j (List.mem_range.2 hj)
    rw [h1, h2] at this
    simpa using this
  have hac2 : ∀ (i : Nat) (o : Oper), ops[i]? = some o → ∀ e : Edge, e ∈ o.after → Region.binds .any e = true → e.on < i := by
    intro i o ho e he hb
    have hlt := (Array.getElem?_eq_some_iff.1 ho).1
    have := List.all_eq_true.1 hac i (List.mem_range.2 hlt)
    rw [ho] at this
    have h3 : (o.after.all fun (e : Edge) => !Region.binds .any e || decide (e.on < i)) = true := this
    have h2 := Array.all_eq_true_iff_forall_mem.1 h3 e he
    rw [hb] at h2
    simpa using h2
  refine wp_region_any hm ?_
  have key : ∀ (fuel : Nat) (listed : Array Bool) (v : Nat → Value) (w1 : World), listed.size = ops.size → I (fun i => listed.getD i false) v w1 →
      ((List.range ops.size).filter fun i => !listed.getD i true).length ≤ fuel → wpAny P .any ops Q fuel listed (fill ops a v ops.size) w1 := by
    intro fuel
    induction fuel with
    | zero =>
      intro listed v w1 hsz hI hc
      have hall : ∀ i, i < ops.size → listed.getD i true = true := by
        intro i hi
        cases hl : listed.getD i true with
        | true => rfl
        | false =>
          have : i ∈ (List.range ops.size).filter fun i => !listed.getD i true := List.mem_filter.2 ⟨List.mem_range.2 hi, by rw [hl]; rfl⟩
          rw [List.eq_nil_of_length_eq_zero (by omega : ((List.range ops.size).filter fun i => !listed.getD i true).length = 0)] at this
          cases this
      have hr : Region.ready .any ops listed = [] := by
        rw [List.eq_nil_iff_forall_not_mem]
        intro i hi
        obtain ⟨h1, o, ho, _⟩ := mem_ready.1 hi
        rw [hall i (Array.getElem?_eq_some_iff.1 ho).1] at h1
        cases h1
      refine ⟨hr, last _ v w1 hI fun i hi => ?_⟩
      have := hall i hi
      simpa [hsz, hi] using this
    | succ fuel ih =>
      intro listed v w1 hsz hI hc
      refine ⟨fun hr => last _ v w1 hI fun i hi => ?_, fun i hi => ?_⟩
      · have : ∀ k, k < ops.size → listed.getD k false = true := by
          intro k
          induction k using Nat.strongRecOn with
          | _ k ihk =>
            intro hk
            cases hl : listed.getD k false with
            | true => rfl
            | false =>
              exfalso
              have hmem : k ∈ Region.ready .any ops listed := mem_ready.2 ⟨by simpa [hsz, hk] using hl, ops[k], by simp [hk], fun e he hb => ihk e.on (hac2 k _ (by simp [hk]) e he hb) (by have := hac2 k _ (by simp [hk] : ops[k]? = some ops[k]) e he hb; omega)⟩
              rw [hr] at hmem
              cases hmem
        exact this i hi
      · obtain ⟨h1, o, ho, h2⟩ := mem_ready.1 hi
        have hlt : i < ops.size := (Array.getElem?_eq_some_iff.1 ho).1
        have hst := step i o ho (fun i => listed.getD i false) v w1 (wpAny P .any ops Q fuel (listed.setIfInBounds i true)) hI (by simpa [hsz, hlt] using h1) h2 (fun x w2 hI2 a2 ha2 => by
          have hso : slotOf ops i = o.dst := by unfold slotOf; rw [ho]; rfl
          rw [ha2, ← hso, fill_upd hne2 x ops.size hlt (Nat.le_refl _)]
          refine ih (listed.setIfInBounds i true) (upd v i x) w2 (by simpa using hsz) ?_ ?_
          · have he : (fun j => (listed.setIfInBounds i true).getD j false) = fun j => listed.getD j false || decide (j = i) := by
              funext j
              by_cases e : j = i
              · subst e; simp [Array.getD_eq_getD_getElem?, hsz, hlt]
              · have e2 : ¬ i = j := fun h => e h.symm
                simp [Array.getD_eq_getD_getElem?, e, e2]
            rw [he]; exact hI2
          · have hlt3 := filter_less (p := fun i => !listed.getD i true) (q := fun j => !(listed.setIfInBounds i true).getD j true) (y := i) (fun j hjq => by
              by_cases e : i = j
              · subst e; simpa using h1
              · simpa [Array.getD_eq_getD_getElem?, Array.getElem?_setIfInBounds, e] using hjq) (by simpa using h1) (by simp [Array.getD_eq_getD_getElem?, hsz, hlt]) (List.range ops.size) (List.mem_range.2 hlt)
            omega)
        unfold wpOp
        rw [ho]
        show if Region.wanted o (yielded ops (fill ops a v ops.size).tmps) = true then _ else _
        split at hst
        · rename_i hw; rw [if_pos hw]; exact .inl hst
        · rename_i hw; rw [if_neg hw]; exact hst
  have hk := key ops.size (Array.replicate ops.size false) (fun i => match slotOf ops i with | some d => a.tmps.getD d undef | none => undef) w.drew (by simp) (by
    have he : (fun i => (Array.replicate ops.size false).getD i false) = fun _ => false := by
      funext i
      by_cases hlt : i < ops.size <;> simp [Array.getD_eq_getD_getElem?, hlt]
    rw [he]; exact h0 _) (Nat.le_trans (List.length_filter_le _ _) (by simp))
  rw [fill_self] at hk
  exact hk
end Go.Proofs.YtbdgcfimbblncaaGreatDoor
end PkMR3_2
section PkMR3_3
/- Manifests: what layer 13's fixed edit meets ahead of its making, walked. Written by genmfd.py. -/
namespace Go.Proofs.YtbdgcfimbblncaaGreatDoor
open Go.RowKit LabPlain
set_option linter.unusedVariables false

theorem mark_info : (Tryz.prog.info? 43).map (fun i => (i.zero, i.size, i.bytes)) = some (some (.agg #[.int .i64 0, .int .i64 0]), 2, 16) := by kernel_rfl
theorem own_info : (Tryz.prog.info? 45).map (fun i => (i.zero, i.size, i.bytes)) = some (some (.agg #[.int .i64 0, .int .i64 0, .int .i64 0]), 3, 24) := by kernel_rfl

set_option maxRecDepth 100000 in
set_option maxHeartbeats 4000000 in
theorem rising_one {w : World} {a : Option Addr} {c : Nat} {x y : Int} (h : VecAt MarkS w a 1 c [(x, y)]) (h1 : 1 ≤ x ∧ x ≤ 64) (h2 : 1 ≤ y ∧ y ≤ 1099511627775) (cf : Value) :
    Calls Tryz.prog 39 #[.slice a 1 c, cf, .func (.func 41) #[] #[]] w fun e w' => e = .returned (.bool true) ∧ Below w.heap.size w w' := by
  have hcap := h.cap
  have hcm := h.capm
  have HR1 := Lib.hid h1
  have HR2 := Lib.hid h2
  have HH := Lib.hid h
  clear h h1 h2
  go_enter Tryz.func39, Tryz.ntmps39
  go_wp2_with fail
  go_loopw [7, 8, 11] (fun _ _ s11 wr => ∃ k : Nat, k ≤ 1 ∧ s11 = .int .i64 (k : Int) ∧ Hid (Below w.heap.size w wr)) (fun _ _ s11 _ => 1 - (intOf s11).toNat)
  case atStart => exact ⟨0, by omega, rfl, Lib.hid (Below.refl _ _)⟩
  case round =>
    obtain ⟨k, hk, rfl, HB⟩ := hrel
    rename World => wr
    by_cases hkn : k = 0
    · subst hkn
      obtain ⟨sb, so, rfl, hsl, _, hsc9⟩ := (HH.out.kept HB.out).get (show 0 < 1 by omega)
      have d0 : wr.cell? ⟨sb, so, none⟩ = some (.int .i64 x) := by simpa using hsc9 0 _ rfl
      have d1 : wr.cell? ⟨sb, so + 1, none⟩ = some (.int .i64 y) := by simpa using hsc9 1 _ rfl
      have HXA := Lib.hid (heap_alloc_new wr (.cells #[.int .i64 x, .int .i64 y] 43))
      have HXL := Lib.hid ((Array.getElem?_eq_some_iff.1 (heap_alloc_new wr (.cells #[.int .i64 x, .int .i64 y] 43))).1)
      have HAL := Lib.hid (show Below w.heap.size w (wr.alloc (.cells #[.int .i64 x, .int .i64 y] 43)) from HB.out.alloc HB.out.size _)
      clear hsc9 hsl
      go_wp2_with fail
      refine wp_region_fill (by kernel_rfl) (by kernel_rfl) (by kernel_rfl) (Below (wr.alloc (.cells #[.int .i64 x, .int .i64 y] 43)).heap.size (wr.alloc (.cells #[.int .i64 x, .int .i64 y] 43))) (FV (fun j_9 => match j_9 with | 0 => some (.func (.func 41) #[] #[]) | 1 => some (.agg #[.int .i64 x, .int .i64 y]) | 2 => some (.bool true) | 3 => some (.bool false) | 4 => some (.bool false) | 5 => some (.int .i64 0) | 6 => some (.bool false) | 7 => some (.bool false) | 8 => some (undef) | 9 => some (undef) | 10 => some (undef) | 11 => some (undef) | 12 => some (undef) | 13 => some (undef) | 14 => some (undef) | 15 => some (undef) | 16 => some (undef) | 17 => some (.bool false) | 18 => some (.bool false) | _ => none) (fun _ _ => True)) (Below.refl _ _).drew ?_ ?_
      · intro i9 o ho V w9 K hJ hdep hK
        have HJ := Lib.hid hJ
        simp only [fill, slotOf, List.size_toArray, List.length_cons, List.length_nil, Nat.reduceAdd, List.getElem?_toArray, List.getElem?_cons_zero, List.getElem?_cons_succ, Option.bind_some, Act.put, List.setIfInBounds_toArray, List.set_cons_zero, List.set_cons_succ] at hK ⊢
        have hin : i9 < 19 := (Array.getElem?_eq_some_iff.1 ho).1
        have hcs : i9 = 0 ∨ i9 = 1 ∨ i9 = 2 ∨ i9 = 3 ∨ i9 = 4 ∨ i9 = 5 ∨ i9 = 6 ∨ i9 = 7 ∨ i9 = 8 ∨ i9 = 9 ∨ i9 = 10 ∨ i9 = 11 ∨ i9 = 12 ∨ i9 = 13 ∨ i9 = 14 ∨ i9 = 15 ∨ i9 = 16 ∨ i9 = 17 ∨ i9 = 18 := by omega
        clear hin
        rcases hcs with rfl | rfl | rfl | rfl | rfl | rfl | rfl | rfl | rfl | rfl | rfl | rfl | rfl | rfl | rfl | rfl | rfl | rfl | rfl
        · obtain rfl := Option.some.inj ho.symm
          clear hdep ho hJ
          try simp only [fill, slotOf, List.size_toArray, List.length_cons, List.length_nil, Nat.reduceAdd, List.getElem?_toArray, List.getElem?_cons_zero, List.getElem?_cons_succ, Option.bind_some, Act.put, List.setIfInBounds_toArray, List.set_cons_zero, List.set_cons_succ] at hK ⊢
          go_simp
          exact hK (.func (.func 41) #[] #[]) _ HJ.out rfl (fun j y h => h) _ rfl
        · obtain rfl := Option.some.inj ho.symm
          have e0 : w9.cell? ⟨wr.heap.size, 0, none⟩ = some (.int .i64 x) := (hJ.cell (p := ⟨wr.heap.size, 0, none⟩) HXL.out).trans (cell_blk HXA.out rfl)
          have e1 : w9.cell? ⟨wr.heap.size, 1, none⟩ = some (.int .i64 y) := (hJ.cell (p := ⟨wr.heap.size, 1, none⟩) HXL.out).trans (cell_blk HXA.out rfl)
          clear hdep ho hJ
          try simp only [fill, slotOf, List.size_toArray, List.length_cons, List.length_nil, Nat.reduceAdd, List.getElem?_toArray, List.getElem?_cons_zero, List.getElem?_cons_succ, Option.bind_some, Act.put, List.setIfInBounds_toArray, List.set_cons_zero, List.set_cons_succ] at hK ⊢
          go_simp
          exact hK (.agg #[.int .i64 x, .int .i64 y]) _ HJ.out rfl (fun j y h => h) _ rfl
        · obtain rfl := Option.some.inj ho.symm
          have d0 : V 0 = .func (.func 41) #[] #[] := hdep ⟨0, .data⟩ (by simp) rfl
          have d1 : V 1 = .agg #[.int .i64 x, .int .i64 y] := hdep ⟨1, .data⟩ (by simp) rfl
          clear hdep ho hJ
          try simp only [fill, slotOf, List.size_toArray, List.length_cons, List.length_nil, Nat.reduceAdd, List.getElem?_toArray, List.getElem?_cons_zero, List.getElem?_cons_succ, Option.bind_some, Act.put, List.setIfInBounds_toArray, List.set_cons_zero, List.set_cons_succ] at hK ⊢
          rw [d0, d1] at hK ⊢
          go_simp
          refine (rightMark_yes HR1.out HR2.out w9).mono ?_
          rintro e w8 ⟨rfl, hb8⟩
          exact hK (.bool true) _ (HJ.out.trans (hb8.mono HJ.out.size)) rfl (FV.mono ((fun _ _ _ => trivial) hb8)) _ rfl
        · obtain rfl := Option.some.inj ho.symm
          have d2 : V 2 = .bool true := hdep ⟨2, .data⟩ (by simp) rfl
          clear hdep ho hJ
          try simp only [fill, slotOf, List.size_toArray, List.length_cons, List.length_nil, Nat.reduceAdd, List.getElem?_toArray, List.getElem?_cons_zero, List.getElem?_cons_succ, Option.bind_some, Act.put, List.setIfInBounds_toArray, List.set_cons_zero, List.set_cons_succ] at hK ⊢
          rw [d2] at hK ⊢
          go_simp
          exact hK (.bool false) _ HJ.out rfl (fun j y h => h) _ rfl
        · obtain rfl := Option.some.inj ho.symm
          have d3 : V 3 = .bool false := hdep ⟨3, .data⟩ (by simp) rfl
          clear hdep ho hJ
          try simp only [fill, slotOf, List.size_toArray, List.length_cons, List.length_nil, Nat.reduceAdd, List.getElem?_toArray, List.getElem?_cons_zero, List.getElem?_cons_succ, Option.bind_some, Act.put, List.setIfInBounds_toArray, List.set_cons_zero, List.set_cons_succ] at hK ⊢
          rw [d3] at hK ⊢
          go_simp
          exact hK (.bool false) _ HJ.out rfl (fun j y h => h) _ rfl
        · obtain rfl := Option.some.inj ho.symm
          have d4 : V 4 = .bool false := hdep ⟨4, .guard⟩ (by simp) rfl
          clear hdep ho hJ
          try simp only [fill, slotOf, List.size_toArray, List.length_cons, List.length_nil, Nat.reduceAdd, List.getElem?_toArray, List.getElem?_cons_zero, List.getElem?_cons_succ, Option.bind_some, Act.put, List.setIfInBounds_toArray, List.set_cons_zero, List.set_cons_succ] at hK ⊢
          rw [d4] at hK ⊢
          go_simp
          exact hK (.int .i64 0) _ HJ.out rfl (fun j y h => h) _ rfl
        · obtain rfl := Option.some.inj ho.symm
          have d5 : V 5 = .int .i64 0 := hdep ⟨5, .data⟩ (by simp) rfl
          have d4 : V 4 = .bool false := hdep ⟨4, .guard⟩ (by simp) rfl
          clear hdep ho hJ
          try simp only [fill, slotOf, List.size_toArray, List.length_cons, List.length_nil, Nat.reduceAdd, List.getElem?_toArray, List.getElem?_cons_zero, List.getElem?_cons_succ, Option.bind_some, Act.put, List.setIfInBounds_toArray, List.set_cons_zero, List.set_cons_succ] at hK ⊢
          rw [d5, d4] at hK ⊢
          go_simp
          exact hK (.bool false) _ HJ.out rfl (fun j y h => h) _ rfl
        · obtain rfl := Option.some.inj ho.symm
          have d6 : V 6 = .bool false := hdep ⟨6, .data⟩ (by simp) rfl
          have d4 : V 4 = .bool false := hdep ⟨4, .guard⟩ (by simp) rfl
          clear hdep ho hJ
          try simp only [fill, slotOf, List.size_toArray, List.length_cons, List.length_nil, Nat.reduceAdd, List.getElem?_toArray, List.getElem?_cons_zero, List.getElem?_cons_succ, Option.bind_some, Act.put, List.setIfInBounds_toArray, List.set_cons_zero, List.set_cons_succ] at hK ⊢
          rw [d6, d4] at hK ⊢
          go_simp
          exact hK (.bool false) _ HJ.out rfl (fun j y h => h) _ rfl
        · obtain rfl := Option.some.inj ho.symm
          have d7 : V 7 = .bool false := hdep ⟨7, .guard⟩ (by simp) rfl
          clear hdep ho hJ
          try simp only [fill, slotOf, List.size_toArray, List.length_cons, List.length_nil, Nat.reduceAdd, List.getElem?_toArray, List.getElem?_cons_zero, List.getElem?_cons_succ, Option.bind_some, Act.put, List.setIfInBounds_toArray, List.set_cons_zero, List.set_cons_succ] at hK ⊢
          rw [d7] at hK ⊢
          go_simp
          exact hK (undef) _ HJ.out rfl (fun j y h => h) _ rfl
        · obtain rfl := Option.some.inj ho.symm
          have d7 : V 7 = .bool false := hdep ⟨7, .guard⟩ (by simp) rfl
          clear hdep ho hJ
          try simp only [fill, slotOf, List.size_toArray, List.length_cons, List.length_nil, Nat.reduceAdd, List.getElem?_toArray, List.getElem?_cons_zero, List.getElem?_cons_succ, Option.bind_some, Act.put, List.setIfInBounds_toArray, List.set_cons_zero, List.set_cons_succ] at hK ⊢
          rw [d7] at hK ⊢
          go_simp
          exact hK (undef) _ HJ.out rfl (fun j y h => h) _ rfl
        · obtain rfl := Option.some.inj ho.symm
          have d7 : V 7 = .bool false := hdep ⟨7, .guard⟩ (by simp) rfl
          clear hdep ho hJ
          try simp only [fill, slotOf, List.size_toArray, List.length_cons, List.length_nil, Nat.reduceAdd, List.getElem?_toArray, List.getElem?_cons_zero, List.getElem?_cons_succ, Option.bind_some, Act.put, List.setIfInBounds_toArray, List.set_cons_zero, List.set_cons_succ] at hK ⊢
          rw [d7] at hK ⊢
          go_simp
          exact hK (undef) _ HJ.out rfl (fun j y h => h) _ rfl
        · obtain rfl := Option.some.inj ho.symm
          have d7 : V 7 = .bool false := hdep ⟨7, .guard⟩ (by simp) rfl
          clear hdep ho hJ
          try simp only [fill, slotOf, List.size_toArray, List.length_cons, List.length_nil, Nat.reduceAdd, List.getElem?_toArray, List.getElem?_cons_zero, List.getElem?_cons_succ, Option.bind_some, Act.put, List.setIfInBounds_toArray, List.set_cons_zero, List.set_cons_succ] at hK ⊢
          rw [d7] at hK ⊢
          go_simp
          exact hK (undef) _ HJ.out rfl (fun j y h => h) _ rfl
        · obtain rfl := Option.some.inj ho.symm
          have d7 : V 7 = .bool false := hdep ⟨7, .guard⟩ (by simp) rfl
          clear hdep ho hJ
          try simp only [fill, slotOf, List.size_toArray, List.length_cons, List.length_nil, Nat.reduceAdd, List.getElem?_toArray, List.getElem?_cons_zero, List.getElem?_cons_succ, Option.bind_some, Act.put, List.setIfInBounds_toArray, List.set_cons_zero, List.set_cons_succ] at hK ⊢
          rw [d7] at hK ⊢
          go_simp
          exact hK (undef) _ HJ.out rfl (fun j y h => h) _ rfl
        · obtain rfl := Option.some.inj ho.symm
          have d7 : V 7 = .bool false := hdep ⟨7, .guard⟩ (by simp) rfl
          clear hdep ho hJ
          try simp only [fill, slotOf, List.size_toArray, List.length_cons, List.length_nil, Nat.reduceAdd, List.getElem?_toArray, List.getElem?_cons_zero, List.getElem?_cons_succ, Option.bind_some, Act.put, List.setIfInBounds_toArray, List.set_cons_zero, List.set_cons_succ] at hK ⊢
          rw [d7] at hK ⊢
          go_simp
          exact hK (undef) _ HJ.out rfl (fun j y h => h) _ rfl
        · obtain rfl := Option.some.inj ho.symm
          have d7 : V 7 = .bool false := hdep ⟨7, .guard⟩ (by simp) rfl
          clear hdep ho hJ
          try simp only [fill, slotOf, List.size_toArray, List.length_cons, List.length_nil, Nat.reduceAdd, List.getElem?_toArray, List.getElem?_cons_zero, List.getElem?_cons_succ, Option.bind_some, Act.put, List.setIfInBounds_toArray, List.set_cons_zero, List.set_cons_succ] at hK ⊢
          rw [d7] at hK ⊢
          go_simp
          exact hK (undef) _ HJ.out rfl (fun j y h => h) _ rfl
        · obtain rfl := Option.some.inj ho.symm
          have d7 : V 7 = .bool false := hdep ⟨7, .guard⟩ (by simp) rfl
          clear hdep ho hJ
          try simp only [fill, slotOf, List.size_toArray, List.length_cons, List.length_nil, Nat.reduceAdd, List.getElem?_toArray, List.getElem?_cons_zero, List.getElem?_cons_succ, Option.bind_some, Act.put, List.setIfInBounds_toArray, List.set_cons_zero, List.set_cons_succ] at hK ⊢
          rw [d7] at hK ⊢
          go_simp
          exact hK (undef) _ HJ.out rfl (fun j y h => h) _ rfl
        · obtain rfl := Option.some.inj ho.symm
          have d7 : V 7 = .bool false := hdep ⟨7, .guard⟩ (by simp) rfl
          clear hdep ho hJ
          try simp only [fill, slotOf, List.size_toArray, List.length_cons, List.length_nil, Nat.reduceAdd, List.getElem?_toArray, List.getElem?_cons_zero, List.getElem?_cons_succ, Option.bind_some, Act.put, List.setIfInBounds_toArray, List.set_cons_zero, List.set_cons_succ] at hK ⊢
          rw [d7] at hK ⊢
          go_simp
          exact hK (undef) _ HJ.out rfl (fun j y h => h) _ rfl
        · obtain rfl := Option.some.inj ho.symm
          have d7 : V 7 = .bool false := hdep ⟨7, .data⟩ (by simp) rfl
          have d16 : V 16 = undef := hdep ⟨16, .data⟩ (by simp) rfl
          have d4 : V 4 = .bool false := hdep ⟨4, .guard⟩ (by simp) rfl
          clear hdep ho hJ
          try simp only [fill, slotOf, List.size_toArray, List.length_cons, List.length_nil, Nat.reduceAdd, List.getElem?_toArray, List.getElem?_cons_zero, List.getElem?_cons_succ, Option.bind_some, Act.put, List.setIfInBounds_toArray, List.set_cons_zero, List.set_cons_succ] at hK ⊢
          rw [d7, d16, d4] at hK ⊢
          go_simp
          exact hK (.bool false) _ HJ.out rfl (fun j y h => h) _ rfl
        · obtain rfl := Option.some.inj ho.symm
          have d4 : V 4 = .bool false := hdep ⟨4, .data⟩ (by simp) rfl
          have d17 : V 17 = .bool false := hdep ⟨17, .data⟩ (by simp) rfl
          clear hdep ho hJ
          try simp only [fill, slotOf, List.size_toArray, List.length_cons, List.length_nil, Nat.reduceAdd, List.getElem?_toArray, List.getElem?_cons_zero, List.getElem?_cons_succ, Option.bind_some, Act.put, List.setIfInBounds_toArray, List.set_cons_zero, List.set_cons_succ] at hK ⊢
          rw [d4, d17] at hK ⊢
          go_simp
          exact hK (.bool false) _ HJ.out rfl (fun j y h => h) _ rfl
      · intro V w9 hJ hall
        have dL : V 18 = .bool false := hall 18 (by decide)
        have HJ9 := Lib.hid hJ
        clear hall hJ
        simp only [fill, slotOf, List.size_toArray, List.length_cons, List.length_nil, Nat.reduceAdd, List.getElem?_toArray, List.getElem?_cons_zero, List.getElem?_cons_succ, Option.bind_some, Act.put, List.setIfInBounds_toArray, List.set_cons_zero, List.set_cons_succ]
        rw [dL]
        clear dL
        have HBZ := Lib.hid (HAL.out.trans (HJ9.out.mono HAL.out.size))
        go_wp2_with fail
        go_roundw
        case rel => exact ⟨1, by omega, rfl, HBZ⟩
        case measure => simp [intOf]
    · obtain rfl : k = 1 := by omega
      go_wp2_with fail
      go_ret
      exact ⟨rfl, HB.out⟩
set_option maxRecDepth 100000 in
theorem right_zero (w : World) : Calls Tryz.prog 11 #[.agg #[.int .i64 0, .int .i64 0, .int .i64 0, .slice none 0 0, .slice none 0 0, .slice none 0 0]] w fun e w' => e = .returned (.bool true) ∧ Below w.heap.size w w' := by
  have HB := Lib.hid ((Below.refl w.heap.size w).alloc (Nat.le_refl _) (.cells #[.int .i64 0, .int .i64 0, .int .i64 0, .slice none 0 0, .slice none 0 0, .slice none 0 0] 26))
  go_enter Tryz.func11, Tryz.ntmps11
  go_wp2_with fail
  refine (within_yes (by omega) (by omega) _).mono ?_
  rintro e w1 ⟨rfl, rfl⟩
  go_wp2_with fail
  refine (within_yes (by omega) (by omega) _).mono ?_
  rintro e w1 ⟨rfl, rfl⟩
  go_wp2_with fail
  refine (within_yes (by omega) (by omega) _).mono ?_
  rintro e w1 ⟨rfl, rfl⟩
  go_wp2_with fail
  refine (rising_nilE none 0 _ _ _).mono ?_
  rintro e w1 ⟨rfl, rfl⟩
  go_wp2_with fail
  refine (rising_nilM none 0 _ _ _).mono ?_
  rintro e w1 ⟨rfl, rfl⟩
  go_wp2_with fail
  refine (rising_nilO none 0 _ _ _).mono ?_
  rintro e w1 ⟨rfl, rfl⟩
  go_wp2_with fail
  go_ret
  exact ⟨rfl, HB.out⟩

@[go_sem] theorem eql_nilM (w : World) (n c n' c' : Nat) : (binOp .eql 23 (.slice none n c) (.slice none n' c')).run Tryz.prog w = .ok (.bool true) w := Lib.run_eql_slice_nil w _ _ none n c n' c' Tryz.underlying23
set_option maxRecDepth 100000 in
theorem clone_nilM (w : World) : Calls Tryz.prog 70 #[.slice none 0 0] w fun e w' => e = .returned (.slice none 0 0) ∧ w' = w := by
  go_enter Tryz.func70, Tryz.ntmps70
  go_wp2_with fail
  go_ret
  exact ⟨rfl, rfl⟩
set_option maxRecDepth 100000 in
theorem bsf_nilM (x y : Int) (f : Value) (w : World) : Calls Tryz.prog 104 #[.slice none 0 0, .agg #[.int .i64 x, .int .i64 y], f] w fun e w' => e = .returned (.tuple #[.int .i64 0, .bool false]) ∧ Below w.heap.size w w' := by
  have HB := Lib.hid ((Below.refl w.heap.size w).alloc (Nat.le_refl _) (.cells #[.int .i64 x, .int .i64 y] 43))
  go_enter Tryz.func104, Tryz.ntmps104
  go_wp2_with fail
  refine wp_loop_rounds 1 ?_
  rw [rounds_succ]
  go_wp2_with fail
  go_region
  go_wp2_with fail
  first | go_ret2 | go_ret
  exact ⟨rfl, HB.out.drew⟩
set_option maxRecDepth 100000 in
set_option maxHeartbeats 1000000 in
theorem insert_nilM {w : World} {g c : Nat} {x y : Int} (h : VecAt MarkS w (some ⟨g, 0, none⟩) 1 c [(x, y)]) : Calls Tryz.prog 105 #[.slice none 0 0, .int .i64 0, .slice (some ⟨g, 0, none⟩) 1 c] w fun e w' => ∃ g' c', e = .returned (.slice (some ⟨g', 0, none⟩) 1 c') ∧ w.heap.size ≤ g' ∧ VecAt MarkS w' (some ⟨g', 0, none⟩) 1 c' [(x, y)] ∧ Below w.heap.size w w' := by
  obtain ⟨i0, ii, iz0, iz1, iz2⟩ := info_parts mark_info
  have hcap := h.cap
  have hcm := h.capm
  have HSRC := Lib.hid h.src
  have HO := Lib.hid (World.ownsRow_nil w w.heap.size 43 2)
  clear h
  go_enter Tryz.func105, Tryz.ntmps105
  go_wp2_with (at_builtin; refine wpList_append_own_at _ rfl (.tmp 23) (.tmp 24) 23 rfl w.heap.size 43 i0 _ 2 16 Tryz.underlying23 ii iz0 iz1 iz2 rfl (by decide) _ 0 _ rfl HO.out ⟨g, 0, none⟩ 1 c (MarkS.flat [(x, y)]) rfl rfl HSRC.out (MarkS.flat_one _) (by unfold maxLen; omega) (by omega) (Nat.le_refl _) ?_)
  intro v w1 ho hg _ _
  have hv : ∃ g' c', v = .slice (some ⟨g', 0, none⟩) 1 c' ∧ w.heap.size ≤ g' := by
    rcases ho.2 with ⟨_, h0⟩ | ⟨g', cap, cur, rfl, hb, _⟩
    · simp at h0
    · exact ⟨g', cap, rfl, hb⟩
  obtain ⟨g', c', rfl, hge⟩ := hv
  have HV := Lib.hid (show VecAt MarkS w1 (some ⟨g', 0, none⟩) 1 c' [(x, y)] from VecAt.ofOwn (S := MarkS) ho rfl (fun _ _ => trivial))
  have HB := Lib.hid (below_own (Below.refl _ _) HO.out hg (Nat.le_refl _) (Nat.le_refl _))
  have HG := Lib.hid hge
  clear ho hg hge
  go_wp2_with fail
  go_ret
  exact ⟨g', c', rfl, HG.out, HV.out, HB.out⟩
set_option maxRecDepth 100000 in
set_option maxHeartbeats 1000000 in
theorem put_nilM (x y : Int) (f : Value) (w : World) : Calls Tryz.prog 71 #[.slice none 0 0, .agg #[.int .i64 x, .int .i64 y], f] w fun e w' => ∃ g c, e = .returned (.slice (some ⟨g, 0, none⟩) 1 c) ∧ w.heap.size ≤ g ∧ VecAt MarkS w' (some ⟨g, 0, none⟩) 1 c [(x, y)] ∧ Below w.heap.size w w' := by
  obtain ⟨wa, hwa⟩ : ∃ wa, wa = w.alloc (.cells #[.int .i64 x, .int .i64 y] 43) := ⟨_, rfl⟩
  have ba : Below w.heap.size w wa := by rw [hwa]; exact (Below.refl _ _).alloc (Nat.le_refl _) _
  have ga : wa.heap[w.heap.size]? = some (.cells #[.int .i64 x, .int .i64 y] 43 (0, 0)) := by rw [hwa]; exact heap_alloc_new _ _
  have HBA := Lib.hid ba
  have HGA := Lib.hid ga
  have HWA := Lib.hid hwa
  have HBS := Lib.hid (bsf_nilM x y f wa)
  clear hwa ba ga
  go_enter Tryz.func71, Tryz.ntmps71
  go_wp2_with fail
  rw [← HWA.out]
  refine HBS.out.mono ?_
  rintro e w1 ⟨rfl, hb1⟩
  have HB1 := Lib.hid (HBA.out.trans (hb1.mono HBA.out.size))
  have hg1 := (hb1.block w.heap.size (Array.getElem?_eq_some_iff.1 HGA.out).1).trans HGA.out
  have c0 : w1.cell? ⟨w.heap.size, 0, none⟩ = some (.int .i64 x) := cell_blk hg1 rfl
  have c1 : w1.cell? ⟨w.heap.size, 1, none⟩ = some (.int .i64 y) := cell_blk hg1 rfl
  obtain ⟨w2, hw2⟩ : ∃ w2, w2 = w1.alloc (.cells #[.int .i64 x, .int .i64 y] 43) := ⟨_, rfl⟩
  have HB2 := Lib.hid (show Below w.heap.size w w2 from by rw [hw2]; exact HB1.out.alloc HB1.out.size _)
  have HV2 := Lib.hid (show VecAt MarkS w2 (some ⟨w1.heap.size, 0, none⟩) 1 1 [(x, y)] from by
    rw [hw2]
    exact VecAt.ofOwn (S := MarkS) (World.ownsRow_lit (base := w1.heap.size) (e := 43) (size := 2) w1 #[.int .i64 x, .int .i64 y] 1 (Nat.le_refl _) (by unfold maxLen; omega) rfl) rfl (fun _ _ => trivial))
  have HW2 := Lib.hid hw2
  have HIN := Lib.hid (insert_nilM HV2.out)
  clear hb1 hg1 hw2
  go_wp2_with fail
  rw [← HW2.out]
  refine HIN.out.mono ?_
  rintro e w3 ⟨g, c, rfl, hge, hv, hb⟩
  have HB3 := Lib.hid (HB2.out.trans (hb.mono HB2.out.size))
  have HV := Lib.hid hv
  have HG := Lib.hid (Nat.le_trans HB2.out.size hge)
  clear hge hv hb
  go_wp2_with fail
  go_ret
  exact ⟨g, c, rfl, HG.out, HV.out, HB3.out⟩

@[go_sem] theorem eql_nilO (w : World) (n c n' c' : Nat) : (binOp .eql 24 (.slice none n c) (.slice none n' c')).run Tryz.prog w = .ok (.bool true) w := Lib.run_eql_slice_nil w _ _ none n c n' c' Tryz.underlying24
set_option maxRecDepth 100000 in
theorem clone_nilO (w : World) : Calls Tryz.prog 73 #[.slice none 0 0] w fun e w' => e = .returned (.slice none 0 0) ∧ w' = w := by
  go_enter Tryz.func73, Tryz.ntmps73
  go_wp2_with fail
  go_ret
  exact ⟨rfl, rfl⟩
set_option maxRecDepth 100000 in
theorem bsf_nilO (x y z : Int) (f : Value) (w : World) : Calls Tryz.prog 106 #[.slice none 0 0, .agg #[.int .i64 x, .int .i64 y, .int .i64 z], f] w fun e w' => e = .returned (.tuple #[.int .i64 0, .bool false]) ∧ Below w.heap.size w w' := by
  have HB := Lib.hid ((Below.refl w.heap.size w).alloc (Nat.le_refl _) (.cells #[.int .i64 x, .int .i64 y, .int .i64 z] 45))
  go_enter Tryz.func106, Tryz.ntmps106
  go_wp2_with fail
  refine wp_loop_rounds 1 ?_
  rw [rounds_succ]
  go_wp2_with fail
  go_region
  go_wp2_with fail
  first | go_ret2 | go_ret
  exact ⟨rfl, HB.out.drew⟩
set_option maxRecDepth 100000 in
set_option maxHeartbeats 1000000 in
theorem insert_nilO {w : World} {g c : Nat} {x y z : Int} (h : VecAt OwnS w (some ⟨g, 0, none⟩) 1 c [(x, y, z)]) : Calls Tryz.prog 107 #[.slice none 0 0, .int .i64 0, .slice (some ⟨g, 0, none⟩) 1 c] w fun e w' => ∃ g' c', e = .returned (.slice (some ⟨g', 0, none⟩) 1 c') ∧ w.heap.size ≤ g' ∧ VecAt OwnS w' (some ⟨g', 0, none⟩) 1 c' [(x, y, z)] ∧ Below w.heap.size w w' := by
  obtain ⟨i0, ii, iz0, iz1, iz2⟩ := info_parts own_info
  have hcap := h.cap
  have hcm := h.capm
  have HSRC := Lib.hid h.src
  have HO := Lib.hid (World.ownsRow_nil w w.heap.size 45 3)
  clear h
  go_enter Tryz.func107, Tryz.ntmps107
  go_wp2_with (at_builtin; refine wpList_append_own_at _ rfl (.tmp 23) (.tmp 24) 24 rfl w.heap.size 45 i0 _ 3 24 Tryz.underlying24 ii iz0 iz1 iz2 rfl (by decide) _ 0 _ rfl HO.out ⟨g, 0, none⟩ 1 c (OwnS.flat [(x, y, z)]) rfl rfl HSRC.out (OwnS.flat_one _) (by unfold maxLen; omega) (by omega) (Nat.le_refl _) ?_)
  intro v w1 ho hg _ _
  have hv : ∃ g' c', v = .slice (some ⟨g', 0, none⟩) 1 c' ∧ w.heap.size ≤ g' := by
    rcases ho.2 with ⟨_, h0⟩ | ⟨g', cap, cur, rfl, hb, _⟩
    · simp at h0
    · exact ⟨g', cap, rfl, hb⟩
  obtain ⟨g', c', rfl, hge⟩ := hv
  have HV := Lib.hid (show VecAt OwnS w1 (some ⟨g', 0, none⟩) 1 c' [(x, y, z)] from VecAt.ofOwn (S := OwnS) ho rfl (fun _ _ => trivial))
  have HB := Lib.hid (below_own (Below.refl _ _) HO.out hg (Nat.le_refl _) (Nat.le_refl _))
  have HG := Lib.hid hge
  clear ho hg hge
  go_wp2_with fail
  go_ret
  exact ⟨g', c', rfl, HG.out, HV.out, HB.out⟩
set_option maxRecDepth 100000 in
set_option maxHeartbeats 1000000 in
theorem put_nilO (x y z : Int) (f : Value) (w : World) : Calls Tryz.prog 72 #[.slice none 0 0, .agg #[.int .i64 x, .int .i64 y, .int .i64 z], f] w fun e w' => ∃ g c, e = .returned (.slice (some ⟨g, 0, none⟩) 1 c) ∧ w.heap.size ≤ g ∧ VecAt OwnS w' (some ⟨g, 0, none⟩) 1 c [(x, y, z)] ∧ Below w.heap.size w w' := by
  obtain ⟨wa, hwa⟩ : ∃ wa, wa = w.alloc (.cells #[.int .i64 x, .int .i64 y, .int .i64 z] 45) := ⟨_, rfl⟩
  have ba : Below w.heap.size w wa := by rw [hwa]; exact (Below.refl _ _).alloc (Nat.le_refl _) _
  have ga : wa.heap[w.heap.size]? = some (.cells #[.int .i64 x, .int .i64 y, .int .i64 z] 45 (0, 0)) := by rw [hwa]; exact heap_alloc_new _ _
  have HBA := Lib.hid ba
  have HGA := Lib.hid ga
  have HWA := Lib.hid hwa
  have HBS := Lib.hid (bsf_nilO x y z f wa)
  clear hwa ba ga
  go_enter Tryz.func72, Tryz.ntmps72
  go_wp2_with fail
  rw [← HWA.out]
  refine HBS.out.mono ?_
  rintro e w1 ⟨rfl, hb1⟩
  have HB1 := Lib.hid (HBA.out.trans (hb1.mono HBA.out.size))
  have hg1 := (hb1.block w.heap.size (Array.getElem?_eq_some_iff.1 HGA.out).1).trans HGA.out
  have c0 : w1.cell? ⟨w.heap.size, 0, none⟩ = some (.int .i64 x) := cell_blk hg1 rfl
  have c1 : w1.cell? ⟨w.heap.size, 1, none⟩ = some (.int .i64 y) := cell_blk hg1 rfl
  have c2 : w1.cell? ⟨w.heap.size, 2, none⟩ = some (.int .i64 z) := cell_blk hg1 rfl
  obtain ⟨w2, hw2⟩ : ∃ w2, w2 = w1.alloc (.cells #[.int .i64 x, .int .i64 y, .int .i64 z] 45) := ⟨_, rfl⟩
  have HB2 := Lib.hid (show Below w.heap.size w w2 from by rw [hw2]; exact HB1.out.alloc HB1.out.size _)
  have HV2 := Lib.hid (show VecAt OwnS w2 (some ⟨w1.heap.size, 0, none⟩) 1 1 [(x, y, z)] from by
    rw [hw2]
    exact VecAt.ofOwn (S := OwnS) (World.ownsRow_lit (base := w1.heap.size) (e := 45) (size := 3) w1 #[.int .i64 x, .int .i64 y, .int .i64 z] 1 (Nat.le_refl _) (by unfold maxLen; omega) rfl) rfl (fun _ _ => trivial))
  have HW2 := Lib.hid hw2
  have HIN := Lib.hid (insert_nilO HV2.out)
  clear hb1 hg1 hw2
  go_wp2_with fail
  rw [← HW2.out]
  refine HIN.out.mono ?_
  rintro e w3 ⟨g, c, rfl, hge, hv, hb⟩
  have HB3 := Lib.hid (HB2.out.trans (hb.mono HB2.out.size))
  have HV := Lib.hid hv
  have HG := Lib.hid (Nat.le_trans HB2.out.size hge)
  clear hge hv hb
  go_wp2_with fail
  go_ret
  exact ⟨g, c, rfl, HG.out, HV.out, HB3.out⟩

end Go.Proofs.YtbdgcfimbblncaaGreatDoor
end PkMR3_3
section PkMR3_4
/- Manifests: what layer 13's fixed edit meets on the manifest of nothing, walked. Written by genmfe.py. -/
namespace Go.Proofs.YtbdgcfimbblncaaGreatDoor
open Go.RowKit LabPlain
set_option linter.unusedVariables false

set_option maxRecDepth 100000 in
set_option maxHeartbeats 4000000 in
theorem rightEdit_yes {w : World} {g c : Nat} (h : VecAt MarkS w (some ⟨g, 0, none⟩) 1 c [(1, 5)]) :
    Calls Tryz.prog 63 #[.agg #[.slice none 0 0, .slice none 0 0, .slice (some ⟨g, 0, none⟩) 1 c, .int .i64 0, .int .i64 0, .int .i64 1, .int .i64 1, .int .i64 1]] w fun e w' => e = .returned (.bool true) ∧ Below w.heap.size w w' := by
  obtain ⟨wa, hwa⟩ : ∃ wa, wa = w.alloc (.cells #[.slice none 0 0, .slice none 0 0, .slice (some ⟨g, 0, none⟩) 1 c, .int .i64 0, .int .i64 0, .int .i64 1, .int .i64 1, .int .i64 1] 48) := ⟨_, rfl⟩
  have ba : Below w.heap.size w wa := by rw [hwa]; exact (Below.refl _ _).alloc (Nat.le_refl _) _
  have ga : wa.heap[w.heap.size]? = some (.cells #[.slice none 0 0, .slice none 0 0, .slice (some ⟨g, 0, none⟩) 1 c, .int .i64 0, .int .i64 0, .int .i64 1, .int .i64 1, .int .i64 1] 48 (0, 0)) := by rw [hwa]; exact heap_alloc_new _ _
  have sa : wa.heap.size = w.heap.size + 1 := by rw [hwa]; exact Array.size_push _
  obtain ⟨wb, hwb⟩ : ∃ wb, wb = wa.alloc (.cells #[.slice none 0 0] 22) := ⟨_, rfl⟩
  have bb : Below w.heap.size w wb := by rw [hwb]; exact ba.alloc ba.size _
  have cb : wb.cell? ⟨wa.heap.size, 0, none⟩ = some (.slice none 0 0) := by rw [hwb]; exact cell_blk (heap_alloc_new _ _) rfl
  have sb : wb.heap.size = wa.heap.size + 1 := by rw [hwb]; exact Array.size_push _
  have HS1 := Lib.hid (sorted0E (w := wb) (gf := 121) (lb := #[.pointer (some ⟨wa.heap.size, 0, none⟩)]) (fun _ _ => rfl) (fun m _ => sseqE m wa.heap.size none 0 wb (by omega) cb wb.heap.size) (.func (.func 38) #[] #[]))
  have HGA := Lib.hid ga
  have HWA := Lib.hid hwa
  have HWB := Lib.hid hwb
  have HBB := Lib.hid bb
  have HSA := Lib.hid sa
  have HSB := Lib.hid sb
  have HG2 := Lib.hid (show wb.heap[w.heap.size]? = some (.cells #[.slice none 0 0, .slice none 0 0, .slice (some ⟨g, 0, none⟩) 1 c, .int .i64 0, .int .i64 0, .int .i64 1, .int .i64 1, .int .i64 1] 48 (0, 0)) from by rw [hwb, hao9 _ _ _ (by omega)]; exact ga)
  have HH := Lib.hid h
  have a0 : wa.cell? ⟨w.heap.size, 0, none⟩ = some (.slice none 0 0) := cell_blk ga rfl
  have a1 : wa.cell? ⟨w.heap.size, 1, none⟩ = some (.slice none 0 0) := cell_blk ga rfl
  have a2 : wa.cell? ⟨w.heap.size, 2, none⟩ = some (.slice (some ⟨g, 0, none⟩) 1 c) := cell_blk ga rfl
  have a3 : wa.cell? ⟨w.heap.size, 3, none⟩ = some (.int .i64 0) := cell_blk ga rfl
  have a4 : wa.cell? ⟨w.heap.size, 4, none⟩ = some (.int .i64 0) := cell_blk ga rfl
  have a5 : wa.cell? ⟨w.heap.size, 5, none⟩ = some (.int .i64 1) := cell_blk ga rfl
  have a6 : wa.cell? ⟨w.heap.size, 6, none⟩ = some (.int .i64 1) := cell_blk ga rfl
  have a7 : wa.cell? ⟨w.heap.size, 7, none⟩ = some (.int .i64 1) := cell_blk ga rfl
  clear hwa ba ga sa hwb bb cb sb h
  go_enter Tryz.func63, Tryz.ntmps63
  go_wp2_with fail
  rw [← HWA.out]
  refine (svaluesE none 0 0).mono ?_
  rintro e w1 ⟨rfl, rfl⟩
  go_wp2_with fail
  rw [← HWB.out]
  refine HS1.out.mono ?_
  rintro e w2 ⟨⟨qa2, qc2, rfl⟩, hb2⟩
  have HB2 := Lib.hid (HBB.out.trans (hb2.mono HBB.out.size))
  have HG3 := Lib.hid ((hb2.block w.heap.size (by have := HSA.out; have := HSB.out; omega)).trans HG2.out)
  clear a0 a1 a2 a3 a4 a5 a6 a7
  have b0 : w2.cell? ⟨w.heap.size, 0, none⟩ = some (.slice none 0 0) := cell_blk HG3.out rfl
  have b1 : w2.cell? ⟨w.heap.size, 1, none⟩ = some (.slice none 0 0) := cell_blk HG3.out rfl
  have b2 : w2.cell? ⟨w.heap.size, 2, none⟩ = some (.slice (some ⟨g, 0, none⟩) 1 c) := cell_blk HG3.out rfl
  have b3 : w2.cell? ⟨w.heap.size, 3, none⟩ = some (.int .i64 0) := cell_blk HG3.out rfl
  have b4 : w2.cell? ⟨w.heap.size, 4, none⟩ = some (.int .i64 0) := cell_blk HG3.out rfl
  have b5 : w2.cell? ⟨w.heap.size, 5, none⟩ = some (.int .i64 1) := cell_blk HG3.out rfl
  have b6 : w2.cell? ⟨w.heap.size, 6, none⟩ = some (.int .i64 1) := cell_blk HG3.out rfl
  have b7 : w2.cell? ⟨w.heap.size, 7, none⟩ = some (.int .i64 1) := cell_blk HG3.out rfl
  obtain ⟨wc, hwc⟩ : ∃ wc, wc = w2.alloc (.cells #[.slice none 0 0] 46) := ⟨_, rfl⟩
  have bc : Below w.heap.size w wc := by rw [hwc]; exact HB2.out.alloc HB2.out.size _
  have cc : wc.cell? ⟨w2.heap.size, 0, none⟩ = some (.slice none 0 0) := by rw [hwc]; exact cell_blk (heap_alloc_new _ _) rfl
  have sc : wc.heap.size = w2.heap.size + 1 := by rw [hwc]; exact Array.size_push _
  have HS2 := Lib.hid (sorted0S (w := wc) (gf := 124) (lb := #[.pointer (some ⟨w2.heap.size, 0, none⟩)]) (fun _ _ => rfl) (fun m _ => sseqS m w2.heap.size none 0 wc (by omega) cc wc.heap.size))
  have HL2 := Lib.hid (show w.heap.size < w2.heap.size from by have := HSA.out; have := HSB.out; have := hb2.size; omega)
  have HG4 := Lib.hid (show wc.heap[w.heap.size]? = some (.cells #[.slice none 0 0, .slice none 0 0, .slice (some ⟨g, 0, none⟩) 1 c, .int .i64 0, .int .i64 0, .int .i64 1, .int .i64 1, .int .i64 1] 48 (0, 0)) from by rw [hwc, hao9 _ _ _ HL2.out]; exact HG3.out)
  have HWC := Lib.hid hwc
  have HBC := Lib.hid bc
  have HSC := Lib.hid sc
  clear hwc bc cc sc hb2
  go_wp2_with fail
  refine (svaluesS none 0 0).mono ?_
  rintro e w3 ⟨rfl, rfl⟩
  go_wp2_with fail
  rw [← HWC.out]
  refine HS2.out.mono ?_
  rintro e w4 ⟨⟨qa4, qc4, rfl⟩, hb4⟩
  have HB4 := Lib.hid (HBC.out.trans (hb4.mono HBC.out.size))
  have HG5 := Lib.hid ((hb4.block w.heap.size (by have := HSC.out; have := HL2.out; omega)).trans HG4.out)
  clear b0 b1 b2 b3 b4 b5 b6 b7
  have m0 : w4.cell? ⟨w.heap.size, 0, none⟩ = some (.slice none 0 0) := cell_blk HG5.out rfl
  have m1 : w4.cell? ⟨w.heap.size, 1, none⟩ = some (.slice none 0 0) := cell_blk HG5.out rfl
  have m2 : w4.cell? ⟨w.heap.size, 2, none⟩ = some (.slice (some ⟨g, 0, none⟩) 1 c) := cell_blk HG5.out rfl
  have m3 : w4.cell? ⟨w.heap.size, 3, none⟩ = some (.int .i64 0) := cell_blk HG5.out rfl
  have m4 : w4.cell? ⟨w.heap.size, 4, none⟩ = some (.int .i64 0) := cell_blk HG5.out rfl
  have m5 : w4.cell? ⟨w.heap.size, 5, none⟩ = some (.int .i64 1) := cell_blk HG5.out rfl
  have m6 : w4.cell? ⟨w.heap.size, 6, none⟩ = some (.int .i64 1) := cell_blk HG5.out rfl
  have m7 : w4.cell? ⟨w.heap.size, 7, none⟩ = some (.int .i64 1) := cell_blk HG5.out rfl
  clear hb4
  have HR1 := Lib.hid (fun cf => rising_one (HH.out.kept HB4.out) (x := 1) (y := 5) ⟨by omega, by omega⟩ ⟨by omega, by omega⟩ cf)
  go_wp2_with fail
  refine (rising_nilE qa2 qc2 _ _ _).mono ?_
  rintro e w5 ⟨rfl, rfl⟩
  go_wp2_with fail
  refine (rising_nilS qa4 qc4 _ _ _).mono ?_
  rintro e w5 ⟨rfl, rfl⟩
  go_wp2_with fail
  refine (HR1.out _).mono ?_
  rintro e w6 ⟨rfl, hb6⟩
  have HB6 := Lib.hid (HB4.out.trans (hb6.mono HB4.out.size))
  have HG6 := Lib.hid ((hb6.block w.heap.size (Array.getElem?_eq_some_iff.1 HG5.out).1).trans HG5.out)
  clear hb6
  clear m0 m1 m2 m3 m4 m5 m6 m7
  have d0 : w6.cell? ⟨w.heap.size, 0, none⟩ = some (.slice none 0 0) := cell_blk HG6.out rfl
  have d1 : w6.cell? ⟨w.heap.size, 1, none⟩ = some (.slice none 0 0) := cell_blk HG6.out rfl
  have d2 : w6.cell? ⟨w.heap.size, 2, none⟩ = some (.slice (some ⟨g, 0, none⟩) 1 c) := cell_blk HG6.out rfl
  have d3 : w6.cell? ⟨w.heap.size, 3, none⟩ = some (.int .i64 0) := cell_blk HG6.out rfl
  have d4 : w6.cell? ⟨w.heap.size, 4, none⟩ = some (.int .i64 0) := cell_blk HG6.out rfl
  have d5 : w6.cell? ⟨w.heap.size, 5, none⟩ = some (.int .i64 1) := cell_blk HG6.out rfl
  have d6 : w6.cell? ⟨w.heap.size, 6, none⟩ = some (.int .i64 1) := cell_blk HG6.out rfl
  have d7 : w6.cell? ⟨w.heap.size, 7, none⟩ = some (.int .i64 1) := cell_blk HG6.out rfl
  go_wp2_with fail
  refine (within_yes (by omega) (by omega) _).mono ?_
  rintro e w7 ⟨rfl, rfl⟩
  go_wp2_with fail
  refine (within_yes (by omega) (by omega) _).mono ?_
  rintro e w7 ⟨rfl, rfl⟩
  go_wp2_with fail
  refine (rightOwner_yes ⟨by omega, by omega⟩ ⟨by omega, by omega⟩ ⟨by omega, by omega⟩ _).mono ?_
  rintro e w7 ⟨rfl, hb7⟩
  have HB7 := Lib.hid (HB6.out.trans (hb7.mono HB6.out.size))
  clear hb7
  go_wp2_with fail
  go_ret
  exact ⟨rfl, HB7.out⟩

end Go.Proofs.YtbdgcfimbblncaaGreatDoor
end PkMR3_4
section PkMR3_5
/- Manifests: outdated, remaining, Mark of layer 13, walked. Written by genmfe.py. -/
namespace Go.Proofs.YtbdgcfimbblncaaGreatDoor
open Go.RowKit LabPlain
set_option linter.unusedVariables false

set_option maxRecDepth 100000 in
set_option maxHeartbeats 4000000 in
theorem lookO_nil (x y z : Int) (f : Value) (w : World) :
    Calls Tryz.prog 100 #[.slice none 0 0, .agg #[.int .i64 x, .int .i64 y, .int .i64 z], f] w fun e w' => e = .returned (.tuple #[.agg #[.int .i64 0, .int .i64 0, .int .i64 0], .bool false]) ∧ Below w.heap.size w w' := by
  obtain ⟨wa, hwa⟩ : ∃ wa, wa = w.alloc (.cells #[.int .i64 x, .int .i64 y, .int .i64 z] 45) := ⟨_, rfl⟩
  obtain ⟨wb, hwb⟩ : ∃ wb, wb = wa.alloc (.cells #[.int .i64 0, .int .i64 0, .int .i64 0] 45) := ⟨_, rfl⟩
  have sa : wa.heap.size = w.heap.size + 1 := by rw [hwa]; exact Array.size_push _
  have sb : wb.heap.size = w.heap.size + 2 := by rw [hwb]; show (wa.heap.push _).size = _; rw [Array.size_push, sa]
  have ba : Below w.heap.size w wa := by rw [hwa]; exact (Below.refl _ _).alloc (Nat.le_refl _) _
  have bb : Below w.heap.size w wb := by rw [hwb]; exact ba.alloc ba.size _
  have gb : wb.heap[w.heap.size + 1]? = some (.cells #[.int .i64 0, .int .i64 0, .int .i64 0] 45 (0, 0)) := by rw [hwb, ← sa]; exact heap_alloc_new _ _
  have HBB := Lib.hid bb
  have HGB := Lib.hid gb
  have HSB := Lib.hid sb
  have hl5 : w.heap.size + 1 < wb.heap.size := by omega
  have HWB := Lib.hid (show (w.alloc (.cells #[.int .i64 x, .int .i64 y, .int .i64 z] 45)).alloc (.cells #[.int .i64 0, .int .i64 0, .int .i64 0] 45) = wb from by rw [hwb, hwa])
  have r0 : wb.cell? ⟨w.heap.size + 1, 0, none⟩ = some (.int .i64 0) := cell_blk gb rfl
  have r1 : wb.cell? ⟨w.heap.size + 1, 1, none⟩ = some (.int .i64 0) := cell_blk gb rfl
  have r2 : wb.cell? ⟨w.heap.size + 1, 2, none⟩ = some (.int .i64 0) := cell_blk gb rfl
  have f0 : wb.frozen? ⟨w.heap.size + 1, 0, none⟩ = false := fro_blk gb 0
  have f1 : wb.frozen? ⟨w.heap.size + 1, 1, none⟩ = false := fro_blk gb 1
  have f2 : wb.frozen? ⟨w.heap.size + 1, 2, none⟩ = false := fro_blk gb 2
  clear hwb hwa sa ba bb gb
  go_enter Tryz.func100, Tryz.ntmps100
  go_wp2_with fail
  rw [HWB.out]
  refine wp_loop_rounds 1 ?_
  rw [rounds_succ]
  go_wp2_with fail
  refine bodyPost_ret (ret_cell_tmp rfl _ _ (w.heap.size + 1) 45 #[.int .i64 0, .int .i64 0, .int .i64 0] _ _ rfl ((hao9 _ _ _ (by simpa using hl5)).trans (setO HGB.out 0 0 0)) Tryz.underlying45 rfl (by kernel_rfl)) rfl ?_
  exact ⟨rfl, (belowO HBB.out (by omega) 0 0 0).alloc (by simp; have := HSB.out; omega) _⟩

set_option maxRecDepth 100000 in
set_option maxHeartbeats 4000000 in
theorem mark_any {w : World} {s d hz : Int} {ea ma oa : Option Addr} {en ec mn mc on oc : Nat} {l : List (Int × Int)} (h : VecAt MarkS w ma mn mc l) (x : Int) :
    Calls Tryz.prog 19 #[.agg #[.int .i64 s, .int .i64 d, .int .i64 hz, .slice ea en ec, .slice ma mn mc, .slice oa on oc], .int .i64 x] w fun e w' => e = .returned (.int .i64 ((l.find? fun y => decide (y.1 = x)).getD (0, 0)).2) ∧ Below w.heap.size w w' := by
  obtain ⟨wa, hwa⟩ : ∃ wa, wa = w.alloc (.cells #[.int .i64 s, .int .i64 d, .int .i64 hz, .slice ea en ec, .slice ma mn mc, .slice oa on oc] 26) := ⟨_, rfl⟩
  have ba : Below w.heap.size w wa := by rw [hwa]; exact (Below.refl _ _).alloc (Nat.le_refl _) _
  have ga : wa.heap[w.heap.size]? = some (.cells #[.int .i64 s, .int .i64 d, .int .i64 hz, .slice ea en ec, .slice ma mn mc, .slice oa on oc] 26 (0, 0)) := by rw [hwa]; exact heap_alloc_new _ _
  have HLK := Lib.hid (lookM_any (h.kept ba) x 0)
  have HBA := Lib.hid ba
  have HWA := Lib.hid hwa
  have c4 : wa.cell? ⟨w.heap.size, 4, none⟩ = some (.slice ma mn mc) := cell_blk ga rfl
  clear hwa ba ga h
  go_enter Tryz.func19, Tryz.ntmps19
  go_wp2_with fail
  rw [← HWA.out]
  refine HLK.out.mono ?_
  rintro e w1 ⟨hl, hb⟩
  obtain ⟨r, hr⟩ : ∃ r, r = (l.find? fun y => decide (y.1 = x)).getD (0, 0) := ⟨_, rfl⟩
  obtain ⟨fd, hfd⟩ : ∃ fd, fd = (l.find? fun y => decide (y.1 = x)).isSome := ⟨_, rfl⟩
  obtain rfl : e = .returned (.tuple #[.agg #[.int .i64 r.1, .int .i64 r.2], .bool fd]) := by rw [hr, hfd]; exact hl
  have HR := Lib.hid hr
  have HB := Lib.hid (HBA.out.trans (hb.mono HBA.out.size))
  clear hb hr hfd hl
  obtain ⟨r1, r2⟩ := r
  go_wp2_with fail
  go_ret
  exact ⟨by rw [← HR.out]; rfl, HB.out.alloc HB.out.size _⟩

set_option maxRecDepth 100000 in
set_option maxHeartbeats 4000000 in
theorem outdated_no {w : World} {g c : Nat} (h : VecAt MarkS w (some ⟨g, 0, none⟩) 1 c [(1, 5)]) :
    Calls Tryz.prog 64 #[.agg #[.int .i64 0, .int .i64 0, .int .i64 0, .slice none 0 0, .slice none 0 0, .slice none 0 0], .agg #[.slice none 0 0, .slice none 0 0, .slice (some ⟨g, 0, none⟩) 1 c, .int .i64 0, .int .i64 0, .int .i64 1, .int .i64 1, .int .i64 1]] w fun e w' => e = .returned (.int .i64 0) ∧ Below w.heap.size w w' := by
  have hcap := h.cap
  have hcm := h.capm
  obtain ⟨wa, hwa⟩ : ∃ wa, wa = w.alloc (.cells #[.int .i64 0, .int .i64 0, .int .i64 0, .slice none 0 0, .slice none 0 0, .slice none 0 0] 26) := ⟨_, rfl⟩
  obtain ⟨wb, hwb⟩ : ∃ wb, wb = wa.alloc (.cells #[.slice none 0 0, .slice none 0 0, .slice (some ⟨g, 0, none⟩) 1 c, .int .i64 0, .int .i64 0, .int .i64 1, .int .i64 1, .int .i64 1] 48) := ⟨_, rfl⟩
  have sa : wa.heap.size = w.heap.size + 1 := by rw [hwa]; exact Array.size_push _
  have sb : wb.heap.size = w.heap.size + 2 := by rw [hwb]; show (wa.heap.push _).size = _; rw [Array.size_push, sa]
  have ba : Below w.heap.size w wa := by rw [hwa]; exact (Below.refl _ _).alloc (Nat.le_refl _) _
  have bb : Below w.heap.size w wb := by rw [hwb]; exact ba.alloc ba.size _
  have gb : wb.heap[w.heap.size + 1]? = some (.cells #[.slice none 0 0, .slice none 0 0, .slice (some ⟨g, 0, none⟩) 1 c, .int .i64 0, .int .i64 0, .int .i64 1, .int .i64 1, .int .i64 1] 48 (0, 0)) := by rw [hwb, ← sa]; exact heap_alloc_new _ _
  have ga : wb.heap[w.heap.size]? = some (.cells #[.int .i64 0, .int .i64 0, .int .i64 0, .slice none 0 0, .slice none 0 0, .slice none 0 0] 26 (0, 0)) := by rw [hwb, hao9 _ _ _ (by omega), hwa]; exact heap_alloc_new _ _
  have HBB := Lib.hid bb
  have HGA := Lib.hid ga
  have HGB := Lib.hid gb
  have HSB := Lib.hid sb
  have HH := Lib.hid h
  have HWB := Lib.hid (show (w.alloc (.cells #[.int .i64 0, .int .i64 0, .int .i64 0, .slice none 0 0, .slice none 0 0, .slice none 0 0] 26)).alloc (.cells #[.slice none 0 0, .slice none 0 0, .slice (some ⟨g, 0, none⟩) 1 c, .int .i64 0, .int .i64 0, .int .i64 1, .int .i64 1, .int .i64 1] 48) = wb from by rw [hwb, hwa])
  have HLK := Lib.hid (lookO_nil 1 1 1 (.func (.func 43) #[] #[]) wb)
  have a0 : wb.cell? ⟨w.heap.size, 0, none⟩ = some (.int .i64 0) := cell_blk ga rfl
  have a1 : wb.cell? ⟨w.heap.size, 1, none⟩ = some (.int .i64 0) := cell_blk ga rfl
  have a2 : wb.cell? ⟨w.heap.size, 2, none⟩ = some (.int .i64 0) := cell_blk ga rfl
  have a3 : wb.cell? ⟨w.heap.size, 3, none⟩ = some (.slice none 0 0) := cell_blk ga rfl
  have a4 : wb.cell? ⟨w.heap.size, 4, none⟩ = some (.slice none 0 0) := cell_blk ga rfl
  have a5 : wb.cell? ⟨w.heap.size, 5, none⟩ = some (.slice none 0 0) := cell_blk ga rfl
  have b0 : wb.cell? ⟨w.heap.size + 1, 0, none⟩ = some (.slice none 0 0) := cell_blk gb rfl
  have b1 : wb.cell? ⟨w.heap.size + 1, 1, none⟩ = some (.slice none 0 0) := cell_blk gb rfl
  have b2 : wb.cell? ⟨w.heap.size + 1, 2, none⟩ = some (.slice (some ⟨g, 0, none⟩) 1 c) := cell_blk gb rfl
  have b3 : wb.cell? ⟨w.heap.size + 1, 3, none⟩ = some (.int .i64 0) := cell_blk gb rfl
  have b4 : wb.cell? ⟨w.heap.size + 1, 4, none⟩ = some (.int .i64 0) := cell_blk gb rfl
  have b5 : wb.cell? ⟨w.heap.size + 1, 5, none⟩ = some (.int .i64 1) := cell_blk gb rfl
  have b6 : wb.cell? ⟨w.heap.size + 1, 6, none⟩ = some (.int .i64 1) := cell_blk gb rfl
  have b7 : wb.cell? ⟨w.heap.size + 1, 7, none⟩ = some (.int .i64 1) := cell_blk gb rfl
  clear hwb hwa sa sb ba bb gb ga h
  go_enter Tryz.func64, Tryz.ntmps64
  go_wp2_with fail
  rw [HWB.out]
  go_wp2_with fail
  refine HLK.out.mono ?_
  rintro e w1 ⟨rfl, hb1⟩
  obtain ⟨w2, hw2⟩ : ∃ w2, w2 = w1.alloc (.cells #[.int .i64 0, .int .i64 0, .int .i64 0] 45) := ⟨_, rfl⟩
  have hb2 : Below wb.heap.size wb w2 := by rw [hw2]; exact hb1.alloc hb1.size _
  have HB2 := Lib.hid (HBB.out.trans (hb2.mono HBB.out.size))
  have HBK := Lib.hid hb2
  have HW2 := Lib.hid hw2
  have HGA2 := Lib.hid ((hb2.block w.heap.size (by have := HSB.out; omega)).trans HGA.out)
  have HGB2 := Lib.hid ((hb2.block (w.heap.size + 1) (by have := HSB.out; omega)).trans HGB.out)
  have hg1 := (hb1.block (w.heap.size + 1) (by have := HSB.out; omega)).trans HGB.out
  have hl1 : w.heap.size + 1 < w1.heap.size := (Array.getElem?_eq_some_iff.1 hg1).1
  have e0 : w1.cell? ⟨w.heap.size + 1, 0, none⟩ = some (.slice none 0 0) := cell_blk hg1 rfl
  have e1 : w1.cell? ⟨w.heap.size + 1, 1, none⟩ = some (.slice none 0 0) := cell_blk hg1 rfl
  have e2 : w1.cell? ⟨w.heap.size + 1, 2, none⟩ = some (.slice (some ⟨g, 0, none⟩) 1 c) := cell_blk hg1 rfl
  have e3 : w1.cell? ⟨w.heap.size + 1, 3, none⟩ = some (.int .i64 0) := cell_blk hg1 rfl
  have e4 : w1.cell? ⟨w.heap.size + 1, 4, none⟩ = some (.int .i64 0) := cell_blk hg1 rfl
  have e5 : w1.cell? ⟨w.heap.size + 1, 5, none⟩ = some (.int .i64 1) := cell_blk hg1 rfl
  have e6 : w1.cell? ⟨w.heap.size + 1, 6, none⟩ = some (.int .i64 1) := cell_blk hg1 rfl
  have e7 : w1.cell? ⟨w.heap.size + 1, 7, none⟩ = some (.int .i64 1) := cell_blk hg1 rfl
  clear hb1 hb2 hw2 hg1
  go_wp2_with fail
  rw [← HW2.out]
  go_loopw [8, 45] (fun _ s45 wr => ∃ k : Nat, k ≤ 1 ∧ s45 = .int .i64 (k : Int) ∧ Hid (Below w2.heap.size w2 wr)) (fun _ s45 _ => 1 - (intOf s45).toNat)
  case atStart => exact ⟨0, by omega, rfl, Lib.hid (Below.refl _ _)⟩
  case round =>
    obtain ⟨k, hk, rfl, HB⟩ := hrel
    rename World => wr
    by_cases hkn : k = 0
    · subst hkn
      obtain ⟨sb, so, hsb, hsl, _, hsc9⟩ := ((HH.out.kept HB2.out).kept HB.out).get (show 0 < 1 by omega)
      obtain ⟨rfl, rfl, _⟩ := hsb
      have d0 : wr.cell? ⟨g, 0, none⟩ = some (.int .i64 1) := by simpa using hsc9 0 _ rfl
      have d1 : wr.cell? ⟨g, 0 + 1, none⟩ = some (.int .i64 5) := by simpa using hsc9 1 _ rfl
      have HXA := Lib.hid (heap_alloc_new wr (.cells #[.int .i64 1, .int .i64 5] 43))
      have HXL := Lib.hid ((Array.getElem?_eq_some_iff.1 (heap_alloc_new wr (.cells #[.int .i64 1, .int .i64 5] 43))).1)
      have HAL := Lib.hid (show Below w2.heap.size w2 (wr.alloc (.cells #[.int .i64 1, .int .i64 5] 43)) from HB.out.alloc HB.out.size _)
      have HMA := Lib.hid ((HAL.out.block w.heap.size (Array.getElem?_eq_some_iff.1 HGA2.out).1).trans HGA2.out)
      have HML := Lib.hid ((Array.getElem?_eq_some_iff.1 HMA.out).1)
      clear hsc9 hsl
      go_wp2_with fail
      refine wp_region_fill (by kernel_rfl) (by kernel_rfl) (by kernel_rfl) (Below (wr.alloc (.cells #[.int .i64 1, .int .i64 5] 43)).heap.size (wr.alloc (.cells #[.int .i64 1, .int .i64 5] 43))) (FV (fun j_9 => match j_9 with | 0 => some (.pointer (some ⟨wr.heap.size, 1, none⟩)) | 1 => some (.int .i64 5) | 2 => some (.agg #[.int .i64 0, .int .i64 0, .int .i64 0, .slice none 0 0, .slice none 0 0, .slice none 0 0]) | 3 => some (.pointer (some ⟨wr.heap.size, 0, none⟩)) | 4 => some (.int .i64 1) | 5 => some (.int .i64 0) | 6 => some (.bool false) | _ => none) (fun _ _ => True)) (Below.refl _ _).drew ?_ ?_
      · intro i9 o ho V w9 K hJ hdep hK
        have HJ := Lib.hid hJ
        simp only [fill, slotOf, List.size_toArray, List.length_cons, List.length_nil, Nat.reduceAdd, List.getElem?_toArray, List.getElem?_cons_zero, List.getElem?_cons_succ, Option.bind_some, Act.put, List.setIfInBounds_toArray, List.set_cons_zero, List.set_cons_succ] at hK ⊢
        have hin : i9 < 7 := (Array.getElem?_eq_some_iff.1 ho).1
        have hcs : i9 = 0 ∨ i9 = 1 ∨ i9 = 2 ∨ i9 = 3 ∨ i9 = 4 ∨ i9 = 5 ∨ i9 = 6 := by omega
        clear hin
        rcases hcs with rfl | rfl | rfl | rfl | rfl | rfl | rfl
        · obtain rfl := Option.some.inj ho.symm
          clear hdep ho hJ
          try simp only [fill, slotOf, List.size_toArray, List.length_cons, List.length_nil, Nat.reduceAdd, List.getElem?_toArray, List.getElem?_cons_zero, List.getElem?_cons_succ, Option.bind_some, Act.put, List.setIfInBounds_toArray, List.set_cons_zero, List.set_cons_succ] at hK ⊢
          go_simp
          exact hK (.pointer (some ⟨wr.heap.size, 1, none⟩)) _ HJ.out rfl (fun j y h => h) _ rfl
        · obtain rfl := Option.some.inj ho.symm
          have d0 : V 0 = .pointer (some ⟨wr.heap.size, 1, none⟩) := hdep ⟨0, .data⟩ (by simp) rfl
          have e1 : w9.cell? ⟨wr.heap.size, 1, none⟩ = some (.int .i64 5) := (hJ.cell (p := ⟨wr.heap.size, 1, none⟩) HXL.out).trans (cell_blk HXA.out rfl)
          clear hdep ho hJ
          try simp only [fill, slotOf, List.size_toArray, List.length_cons, List.length_nil, Nat.reduceAdd, List.getElem?_toArray, List.getElem?_cons_zero, List.getElem?_cons_succ, Option.bind_some, Act.put, List.setIfInBounds_toArray, List.set_cons_zero, List.set_cons_succ] at hK ⊢
          rw [d0] at hK ⊢
          go_simp
          exact hK (.int .i64 5) _ HJ.out rfl (fun j y h => h) _ rfl
        · obtain rfl := Option.some.inj ho.symm
          have m0 : w9.cell? ⟨w.heap.size, 0, none⟩ = some (.int .i64 0) := (hJ.cell (p := ⟨w.heap.size, 0, none⟩) HML.out).trans (cell_blk HMA.out rfl)
          have m1 : w9.cell? ⟨w.heap.size, 1, none⟩ = some (.int .i64 0) := (hJ.cell (p := ⟨w.heap.size, 1, none⟩) HML.out).trans (cell_blk HMA.out rfl)
          have m2 : w9.cell? ⟨w.heap.size, 2, none⟩ = some (.int .i64 0) := (hJ.cell (p := ⟨w.heap.size, 2, none⟩) HML.out).trans (cell_blk HMA.out rfl)
          have m3 : w9.cell? ⟨w.heap.size, 3, none⟩ = some (.slice none 0 0) := (hJ.cell (p := ⟨w.heap.size, 3, none⟩) HML.out).trans (cell_blk HMA.out rfl)
          have m4 : w9.cell? ⟨w.heap.size, 4, none⟩ = some (.slice none 0 0) := (hJ.cell (p := ⟨w.heap.size, 4, none⟩) HML.out).trans (cell_blk HMA.out rfl)
          have m5 : w9.cell? ⟨w.heap.size, 5, none⟩ = some (.slice none 0 0) := (hJ.cell (p := ⟨w.heap.size, 5, none⟩) HML.out).trans (cell_blk HMA.out rfl)
          clear hdep ho hJ
          try simp only [fill, slotOf, List.size_toArray, List.length_cons, List.length_nil, Nat.reduceAdd, List.getElem?_toArray, List.getElem?_cons_zero, List.getElem?_cons_succ, Option.bind_some, Act.put, List.setIfInBounds_toArray, List.set_cons_zero, List.set_cons_succ] at hK ⊢
          go_simp
          exact hK (.agg #[.int .i64 0, .int .i64 0, .int .i64 0, .slice none 0 0, .slice none 0 0, .slice none 0 0]) _ HJ.out rfl (fun j y h => h) _ rfl
        · obtain rfl := Option.some.inj ho.symm
          clear hdep ho hJ
          try simp only [fill, slotOf, List.size_toArray, List.length_cons, List.length_nil, Nat.reduceAdd, List.getElem?_toArray, List.getElem?_cons_zero, List.getElem?_cons_succ, Option.bind_some, Act.put, List.setIfInBounds_toArray, List.set_cons_zero, List.set_cons_succ] at hK ⊢
          go_simp
          exact hK (.pointer (some ⟨wr.heap.size, 0, none⟩)) _ HJ.out rfl (fun j y h => h) _ rfl
        · obtain rfl := Option.some.inj ho.symm
          have d3 : V 3 = .pointer (some ⟨wr.heap.size, 0, none⟩) := hdep ⟨3, .data⟩ (by simp) rfl
          have e0 : w9.cell? ⟨wr.heap.size, 0, none⟩ = some (.int .i64 1) := (hJ.cell (p := ⟨wr.heap.size, 0, none⟩) HXL.out).trans (cell_blk HXA.out rfl)
          clear hdep ho hJ
          try simp only [fill, slotOf, List.size_toArray, List.length_cons, List.length_nil, Nat.reduceAdd, List.getElem?_toArray, List.getElem?_cons_zero, List.getElem?_cons_succ, Option.bind_some, Act.put, List.setIfInBounds_toArray, List.set_cons_zero, List.set_cons_succ] at hK ⊢
          rw [d3] at hK ⊢
          go_simp
          exact hK (.int .i64 1) _ HJ.out rfl (fun j y h => h) _ rfl
        · obtain rfl := Option.some.inj ho.symm
          have d2 : V 2 = .agg #[.int .i64 0, .int .i64 0, .int .i64 0, .slice none 0 0, .slice none 0 0, .slice none 0 0] := hdep ⟨2, .data⟩ (by simp) rfl
          have d4 : V 4 = .int .i64 1 := hdep ⟨4, .data⟩ (by simp) rfl
          clear hdep ho hJ
          try simp only [fill, slotOf, List.size_toArray, List.length_cons, List.length_nil, Nat.reduceAdd, List.getElem?_toArray, List.getElem?_cons_zero, List.getElem?_cons_succ, Option.bind_some, Act.put, List.setIfInBounds_toArray, List.set_cons_zero, List.set_cons_succ] at hK ⊢
          rw [d2, d4] at hK ⊢
          go_simp
          refine (mark_any (w := w9) (s := 0) (d := 0) (hz := 0) (ea := none) (en := 0) (ec := 0) (oa := none) (on := 0) (oc := 0) (VecAt.empty (S := MarkS) w9 none 0 (by omega) (fun _ => rfl)) 1).mono ?_
          rintro e w8 ⟨rfl, hb8⟩
          exact hK (.int .i64 0) _ (HJ.out.trans (hb8.mono HJ.out.size)) rfl (FV.mono ((fun _ _ _ => trivial) hb8)) _ rfl
        · obtain rfl := Option.some.inj ho.symm
          have d1 : V 1 = .int .i64 5 := hdep ⟨1, .data⟩ (by simp) rfl
          have d5 : V 5 = .int .i64 0 := hdep ⟨5, .data⟩ (by simp) rfl
          clear hdep ho hJ
          try simp only [fill, slotOf, List.size_toArray, List.length_cons, List.length_nil, Nat.reduceAdd, List.getElem?_toArray, List.getElem?_cons_zero, List.getElem?_cons_succ, Option.bind_some, Act.put, List.setIfInBounds_toArray, List.set_cons_zero, List.set_cons_succ] at hK ⊢
          rw [d1, d5] at hK ⊢
          go_simp
          exact hK (.bool false) _ HJ.out rfl (fun j y h => h) _ rfl
      · intro V w9 hJ hall
        have dL : V 6 = .bool false := hall 6 (by decide)
        have HJ9 := Lib.hid hJ
        clear hall hJ
        simp only [fill, slotOf, List.size_toArray, List.length_cons, List.length_nil, Nat.reduceAdd, List.getElem?_toArray, List.getElem?_cons_zero, List.getElem?_cons_succ, Option.bind_some, Act.put, List.setIfInBounds_toArray, List.set_cons_zero, List.set_cons_succ]
        rw [dL]
        clear dL
        have HBZ := Lib.hid (HAL.out.trans (HJ9.out.mono HAL.out.size))
        go_wp2_with fail
        go_roundw
        case rel => exact ⟨1, by omega, rfl, HBZ⟩
        case measure => simp [intOf]
    · obtain rfl : k = 1 := by omega
      go_wp2_with fail
      go_ret
      exact ⟨rfl, HB2.out.trans (HB.out.mono HB2.out.size)⟩

set_option maxRecDepth 100000 in
set_option maxHeartbeats 4000000 in
theorem remaining_nil (g c : Nat) (w : World) :
    Calls Tryz.prog 65 #[.agg #[.int .i64 0, .int .i64 0, .int .i64 0, .slice none 0 0, .slice none 0 0, .slice none 0 0], .agg #[.slice none 0 0, .slice none 0 0, .slice (some ⟨g, 0, none⟩) 1 c, .int .i64 0, .int .i64 0, .int .i64 1, .int .i64 1, .int .i64 1]] w fun e w' => ∃ b, e = .returned (.tuple #[.map (some b), .int .i64 0]) ∧ NoMap w' b ∧ w.heap.size ≤ b ∧ Below w.heap.size w w' := by
  obtain ⟨wa, hwa⟩ : ∃ wa, wa = w.alloc (.cells #[.int .i64 0, .int .i64 0, .int .i64 0, .slice none 0 0, .slice none 0 0, .slice none 0 0] 26) := ⟨_, rfl⟩
  obtain ⟨wb, hwb⟩ : ∃ wb, wb = wa.alloc (.cells #[.slice none 0 0, .slice none 0 0, .slice (some ⟨g, 0, none⟩) 1 c, .int .i64 0, .int .i64 0, .int .i64 1, .int .i64 1, .int .i64 1] 48) := ⟨_, rfl⟩
  obtain ⟨wc, hwc⟩ : ∃ wc, wc = wb.alloc (.map #[] 0) := ⟨_, rfl⟩
  have sa : wa.heap.size = w.heap.size + 1 := by rw [hwa]; exact Array.size_push _
  have sb : wb.heap.size = w.heap.size + 2 := by rw [hwb]; show (wa.heap.push _).size = _; rw [Array.size_push, sa]
  have ba : Below w.heap.size w wa := by rw [hwa]; exact (Below.refl _ _).alloc (Nat.le_refl _) _
  have bb : Below w.heap.size w wb := by rw [hwb]; exact ba.alloc ba.size _
  have bc : Below w.heap.size w wc := by rw [hwc]; exact bb.alloc bb.size _
  have gb : wc.heap[w.heap.size + 1]? = some (.cells #[.slice none 0 0, .slice none 0 0, .slice (some ⟨g, 0, none⟩) 1 c, .int .i64 0, .int .i64 0, .int .i64 1, .int .i64 1, .int .i64 1] 48 (0, 0)) := by rw [hwc, hao9 _ _ _ (by omega), hwb, ← sa]; exact heap_alloc_new _ _
  have ga : wc.heap[w.heap.size]? = some (.cells #[.int .i64 0, .int .i64 0, .int .i64 0, .slice none 0 0, .slice none 0 0, .slice none 0 0] 26 (0, 0)) := by rw [hwc, hao9 _ _ _ (by omega), hwb, hao9 _ _ _ (by omega), hwa]; exact heap_alloc_new _ _
  have HNM := Lib.hid (show NoMap wc wb.heap.size from by rw [hwc]; exact NoMap.made wb)
  have HBC := Lib.hid bc
  have HWB := Lib.hid (show (w.alloc (.cells #[.int .i64 0, .int .i64 0, .int .i64 0, .slice none 0 0, .slice none 0 0, .slice none 0 0] 26)).alloc (.cells #[.slice none 0 0, .slice none 0 0, .slice (some ⟨g, 0, none⟩) 1 c, .int .i64 0, .int .i64 0, .int .i64 1, .int .i64 1, .int .i64 1] 48) = wb from by rw [hwb, hwa])
  have HWC := Lib.hid (show wb.alloc (.map #[] 0) = wc from hwc.symm)
  have HSB := Lib.hid sb
  have a0 : wc.cell? ⟨w.heap.size, 0, none⟩ = some (.int .i64 0) := cell_blk ga rfl
  have a1 : wc.cell? ⟨w.heap.size, 1, none⟩ = some (.int .i64 0) := cell_blk ga rfl
  have a2 : wc.cell? ⟨w.heap.size, 2, none⟩ = some (.int .i64 0) := cell_blk ga rfl
  have a3 : wc.cell? ⟨w.heap.size, 3, none⟩ = some (.slice none 0 0) := cell_blk ga rfl
  have a4 : wc.cell? ⟨w.heap.size, 4, none⟩ = some (.slice none 0 0) := cell_blk ga rfl
  have a5 : wc.cell? ⟨w.heap.size, 5, none⟩ = some (.slice none 0 0) := cell_blk ga rfl
  have b0 : wc.cell? ⟨w.heap.size + 1, 0, none⟩ = some (.slice none 0 0) := cell_blk gb rfl
  have b1 : wc.cell? ⟨w.heap.size + 1, 1, none⟩ = some (.slice none 0 0) := cell_blk gb rfl
  have b2 : wc.cell? ⟨w.heap.size + 1, 2, none⟩ = some (.slice (some ⟨g, 0, none⟩) 1 c) := cell_blk gb rfl
  have b3 : wc.cell? ⟨w.heap.size + 1, 3, none⟩ = some (.int .i64 0) := cell_blk gb rfl
  have b4 : wc.cell? ⟨w.heap.size + 1, 4, none⟩ = some (.int .i64 0) := cell_blk gb rfl
  have b5 : wc.cell? ⟨w.heap.size + 1, 5, none⟩ = some (.int .i64 1) := cell_blk gb rfl
  have b6 : wc.cell? ⟨w.heap.size + 1, 6, none⟩ = some (.int .i64 1) := cell_blk gb rfl
  have b7 : wc.cell? ⟨w.heap.size + 1, 7, none⟩ = some (.int .i64 1) := cell_blk gb rfl
  clear hwb hwa hwc sa sb ba bb bc gb ga
  have hmap := @run_makeMap Tryz.prog
  go_enter Tryz.func65, Tryz.ntmps65
  go_wp2_with fail
  rw [HWB.out, HWC.out]
  go_wp2_with fail
  refine wp_loop_rounds 1 ?_
  rw [rounds_succ]
  go_wp2_with fail
  refine wp_loop_rounds 1 ?_
  rw [rounds_succ]
  go_wp2_with fail
  refine wp_loop_rounds 1 ?_
  rw [rounds_succ]
  go_wp2_with fail
  refine wp_loop_rounds 1 ?_
  rw [rounds_succ]
  go_wp2_with fail
  first | go_ret2 | go_ret
  exact ⟨w.heap.size + 1 + 1, rfl, by have e := HNM.out; rw [HSB.out] at e; exact e, by omega, HBC.out⟩

end Go.Proofs.YtbdgcfimbblncaaGreatDoor
end PkMR3_5
