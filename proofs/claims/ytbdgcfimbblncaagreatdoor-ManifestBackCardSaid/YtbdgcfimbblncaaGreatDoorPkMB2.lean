/- Texts put together by packtpl2.py: MfC, FV, AnyOrd, MfD, MfE, MfF, MfG, MfTw, Byl, Gb, MfEn. -/
import Derived.Test.YtbdgcfimbblncaaGreatDoorPkMB1
import Derived.RangeFuncBox
import Derived.RangeFuncLeaves
import Derived.RangeFuncFrom
import Derived.Shelf.Abstract
import Derived.OwnWalkIn
import Derived.TacticsInMore
import Derived.LoopNIn
import Derived.LoopIn
import Derived.Maps.AppendAt
import Derived.Maps.RangeWalk
import Derived.Sort.MapsRangeIn
import Derived.StringKeys
import Derived.Deep.RegionHeld3
import Derived.Maps.Own
import Derived.Maps.OwnSet
import Derived.Lib.MinMax
import Derived.Lib.AppendStr
import Derived.Deep.Upon
import Derived.Deep.AppendSrc
section PkMB2_0
/- Sequences and maps of nothing: what the library makes of them, walked. Written by genmfc.py. -/
namespace Go.Proofs.YtbdgcfimbblncaaGreatDoor
open Go.RowKit Go.Shelf
open Go.Maps (Keyed)
set_option linter.unusedVariables false
attribute [local go_sem] Oper.semAt_some

def R0 : Value → Option (DataW Unit × List MemPlace) := fun _ => none
theorem lawS : Keyed Tryz.prog 9 := Keyed.of_law (Go.WideMaps.string_law Tryz.underlying9)
/-- a map without anything -/
def NoMap (w : World) (b : Nat) : Prop := w.ownsMap Tryz.prog 9 R0 b 0 (.map [])
theorem NoMap.made (w : World) : NoMap (w.alloc (.map #[] 0)) w.heap.size := World.ownsMap_made w _ _ _
theorem NoMap.lt {w : World} {b : Nat} (h : NoMap w b) : b < w.heap.size := World.ownsMap.lt h
theorem grown_b {w w' : World} (h : w.grownBy w' none) : Below w.heap.size w w' := ⟨h.os, h.tape, h.output, h.size, fun k hk => h.block k hk (by simp)⟩
theorem NoMap.kept {w w' : World} {b : Nat} (h : NoMap w b) (hb : Below w.heap.size w w') : NoMap w' b := World.ownsMap.kept h (row := none) ⟨hb.os, hb.tape, hb.output, hb.size, fun k hk _ => hb.block k hk⟩ (by simp)

set_option maxRecDepth 100000 in
theorem deletefunc_nil {w : World} {b : Nat} (h : NoMap w b) (fv : Value) :
    Calls Tryz.prog 66 #[.map (some b), fv] w fun e w' => e = .returned (.tuple #[]) ∧ Below w.heap.size w w' := by
  have h' : w.ownsMap Tryz.prog 9 R0 b 0 (.map []) := h
  go_enter Tryz.func66, Tryz.ntmps66
  go_wp2_with (first
    | (at_range; refine wpList_range_own _ rfl _ 92 rfl 9 53 lawS Tryz.underlying92 R0 b 0 _ rfl h' ?_; intro w0 hrg0 hg0 hs0)
    | go_in)
  go_frame
  refine wp_loop_rounds 1 ?_
  rw [rounds_succ]
  go_wp2_with (first
    | (at_next; refine wpList_next_ranges (α := ByteArray) (β := Unit) _ rfl _ rfl 9 lawS R0 Value.string (fun _ => undef) (fun _ _ hk => Maps.keyOf_string_inv Tryz.underlying9 hk) (fun _ _ hR => by cases hR) b w.heap.size 0 _ _ _ rfl hrg0 ?_ ?_)
    | go_in)
  · intro _ _
    go_wp2
    go_end0
    exact ⟨rfl, grown_b hg0⟩
  · intro x c kl y w' cnt' _ _ hR
    cases hR
theorem mvalues_any {w : World} (b : Nat) :
    Calls Tryz.prog 69 #[.map (some b)] w fun e w' => e = .returned (.func (.func 103) #[] #[.pointer (some ⟨w.heap.size, 0, none⟩)]) ∧ w' = w.alloc (.cells #[.map (some b)] 92) := by
  go_enter Tryz.func69, Tryz.ntmps69
  go_wp2_with fail
  go_ret
  exact ⟨rfl, rfl⟩
/-- nothing comes -/
def noEnc : Empty → Array Value := fun x => x.elim
set_option maxRecDepth 100000 in
set_option maxHeartbeats 2000000 in
theorem mseq_stops (n : Nat) (Bs b : Nat) (w : World) (hBs : Bs < w.heap.size) (hc : w.cell? ⟨Bs, 0, none⟩ = some (.map (some b))) (h : NoMap w b) (n₀ : Nat) (hn₀ : n₀ ≤ w.heap.size) :
    SeqStopsK Fence.wide n Tryz.prog 103 #[.pointer (some ⟨Bs, 0, none⟩)] noEnc (Below n₀) (fun _ => True) (fun _ => True) 0 w := by
  intro l J Jx W hW hJ hJx hY h0
  have hBW : W.cell? ⟨Bs, 0, none⟩ = some (.map (some b)) := (hW.cell (p := ⟨Bs, 0, none⟩) hBs).trans hc
  have h' : W.ownsMap Tryz.prog 9 R0 b 0 (.map []) := h.kept hW
  refine callsIn_of_wp Tryz.func103 rfl trivial ?_ rfl
  simp only [Tryz.ntmps103, List.size_toArray, List.length_cons, List.length_nil, Nat.reduceAdd, Nat.reduceSub, Array.replicate_succ, Array.replicate_zero, List.push_toArray, List.append_toArray, List.nil_append, List.cons_append]
  gi_wp2_with (gi_at_range; refine wpListIn_range_own _ rfl _ 92 rfl 9 53 lawS Tryz.underlying92 R0 b 0 _ rfl h' ?_; intro w0 hrg0 hg0 hs0)
  go_frame
  have hJ0 : J [] w0 := hJ [] W w0 none h0 hg0 (by simp)
  refine wpIn_loop_rounds 1 ?_
  rw [roundsIn_succ]
  gi_wp2_with (gi_at_next; refine wpListIn_next_ranges (α := ByteArray) (β := Unit) _ rfl _ rfl 9 lawS R0 Value.string (fun _ => undef) (fun _ _ hk => Maps.keyOf_string_inv Tryz.underlying9 hk) (fun _ _ hR => by cases hR) b W.heap.size 0 _ _ _ rfl hrg0 ?_ ?_)
  · intro _ _
    gi_wp2
    go_end0
    exact ⟨⟨_, rfl⟩, .inl ⟨[], trivial, hJ0⟩⟩
  · intro x c kl y w' cnt' _ _ hR
    cases hR

theorem svaluesE {w : World} (a : Option Addr) (n c : Nat) :
    Calls Tryz.prog 95 #[.slice a n c] w fun e w' => e = .returned (.func (.func 121) #[] #[.pointer (some ⟨w.heap.size, 0, none⟩)]) ∧ w' = w.alloc (.cells #[.slice a n c] 22) := by
  go_enter Tryz.func95, Tryz.ntmps95
  go_wp2_with fail
  go_ret
  exact ⟨rfl, rfl⟩
set_option maxRecDepth 100000 in
set_option maxHeartbeats 2000000 in
theorem sseqE (n : Nat) (Bs : Nat) (sa : Option Addr) (cap : Nat) (w : World) (hBs : Bs < w.heap.size) (hc : w.cell? ⟨Bs, 0, none⟩ = some (.slice sa 0 cap)) (n₀ : Nat) :
    SeqStopsK Fence.wide n Tryz.prog 121 #[.pointer (some ⟨Bs, 0, none⟩)] noEnc (Below n₀) (fun _ => True) (fun _ => True) 0 w := by
  intro l J Jx W hW hJ hJx hY h0
  have hBW : W.cell? ⟨Bs, 0, none⟩ = some (.slice sa 0 cap) := (hW.cell (p := ⟨Bs, 0, none⟩) hBs).trans hc
  refine callsIn_of_wp Tryz.func121 rfl trivial ?_ rfl
  simp only [Tryz.ntmps121, List.size_toArray, List.length_cons, List.length_nil, Nat.reduceAdd, Nat.reduceSub, Array.replicate_succ, Array.replicate_zero, List.push_toArray, List.append_toArray, List.nil_append, List.cons_append]
  gi_wp2
  gi_loopw [7] (fun i wr => i = .int .i64 0 ∧ J [] wr) (fun _ _ => 0)
  case atStart => exact ⟨rfl, h0⟩
  case round =>
    obtain ⟨rfl, hJs⟩ := hrel
    gi_wp2
    go_end0
    exact ⟨⟨_, rfl⟩, .inl ⟨[], trivial, hJs⟩⟩
set_option maxRecDepth 100000 in
set_option maxHeartbeats 2000000 in
theorem append0E (n : Nat) (hn : 3 ≤ n) {w : World} {gf : Nat} {lb : Array Value} (eg : ∀ args w, (callFunc gf args).run Tryz.prog w = .ok (.enter gf args) w)
    (hseq : ∀ m, 1 ≤ m → SeqStopsK Fence.wide m Tryz.prog gf lb noEnc (Below w.heap.size) (fun _ => True) (fun _ => True) 0 w) :
    CallsIn Fence.wide n Tryz.prog 126 #[.slice none 0 0, .func (.func gf) #[] lb] w fun e W' => (∃ a c, e = .returned (.slice a 0 c)) ∧ Below w.heap.size w W' := by
  have h1 : 1 ≤ n := by omega
  refine callsIn_of_wp_marks Tryz.func126 rfl trivial ?_ rfl
  simp only [Tryz.ntmps126, List.size_toArray, List.length_cons, List.length_nil, Nat.reduceAdd, Nat.reduceSub, Array.replicate_succ, Array.replicate_zero, List.push_toArray, List.append_toArray, List.nil_append, List.cons_append]
  gi_wp2
  have bO := Boxed.new w 22 (.slice none 0 0)
  have hB0 : Below w.heap.size w (w.alloc (.cells #[.slice none 0 0] 22)) := (Below.refl _ w).alloc (Nat.le_refl _) _
  refine wpIn_rangeFunc_ownF (α := Empty) rfl h1 (gf := gf) (lb := lb) rfl trivial eg
    (hseq (n - 1) (by omega)) belowK_t (belowK_b (by simp)) hB0 (fun x => x.elim)
    (fun pre W => (∃ v, Boxed W w.heap.size 22 v ∧ W.ownsRow w.heap.size 53 9 v 0 [] ∧ True) ∧ Below w.heap.size w W)
    (fun _ _ _ => False)
    (OwnFrom.and (Own.from (holdsRow_own w.heap.size w.heap.size 22 53 9 (fun pre : List Empty => 0) (fun pre => []) (fun pre v => True)) _) (ownFrom_below (Nat.le_refl _) (by simp)))
    (fun _ _ _ _ _ hs _ _ => hs)
    ⟨⟨_, bO, World.ownsRow_nil _ _ _ _, trivial⟩, hB0⟩
    (fun x => x.elim) (fun _ x => x.elim) (fun _ _ x => x.elim) ?done ?stop
  case done =>
    rintro D ys W hD _ ⟨⟨v, hv, hrow, _⟩, hB⟩ hK
    have hc := hv.cell
    have hvs : ∃ a c, v = .slice a 0 c := by
      rcases hrow.2 with ⟨rfl, _⟩ | ⟨g, cap, cur, rfl, _⟩
      · exact ⟨_, _, rfl⟩
      · exact ⟨_, _, rfl⟩
    gi_wp2
    refine ⟨by simp, .inl ⟨_, _, rfl, run_takeDeferred hK, ?_⟩⟩
    obtain ⟨a, c, rfl⟩ := hvs
    exact ⟨_, results_tmp rfl _ _ _, ⟨a, c, rfl⟩, hB.trans (belowK_b (w := w) (Nat.le_refl _) W D _ _ (by simp at hD; omega) hK rfl rfl)⟩
  case stop =>
    rintro D c pre W _ _ h _
    exact h.elim
theorem collect0E {w : World} {gf : Nat} {lb : Array Value} (eg : ∀ args w, (callFunc gf args).run Tryz.prog w = .ok (.enter gf args) w)
    (hseq : ∀ m, 1 ≤ m → SeqStopsK Fence.wide m Tryz.prog gf lb noEnc (Below w.heap.size) (fun _ => True) (fun _ => True) 0 w) :
    Calls Tryz.prog 101 #[.func (.func gf) #[] lb] w fun e W' => (∃ a c, e = .returned (.slice a 0 c)) ∧ Below w.heap.size w W' := by
  have HA := Lib.hid (callsIn_wide.1 (append0E 3 (by omega) eg hseq))
  clear hseq
  go_enter Tryz.func101, Tryz.ntmps101
  go_wp2_with fail
  refine HA.out.mono ?_
  rintro e w1 ⟨⟨a, c, rfl⟩, hb⟩
  have HB := Lib.hid hb
  clear hb
  go_wp2_with fail
  go_ret
  exact ⟨⟨_, _, rfl⟩, HB.out⟩

theorem svaluesS {w : World} (a : Option Addr) (n c : Nat) :
    Calls Tryz.prog 97 #[.slice a n c] w fun e w' => e = .returned (.func (.func 124) #[] #[.pointer (some ⟨w.heap.size, 0, none⟩)]) ∧ w' = w.alloc (.cells #[.slice a n c] 46) := by
  go_enter Tryz.func97, Tryz.ntmps97
  go_wp2_with fail
  go_ret
  exact ⟨rfl, rfl⟩
set_option maxRecDepth 100000 in
set_option maxHeartbeats 2000000 in
theorem sseqS (n : Nat) (Bs : Nat) (sa : Option Addr) (cap : Nat) (w : World) (hBs : Bs < w.heap.size) (hc : w.cell? ⟨Bs, 0, none⟩ = some (.slice sa 0 cap)) (n₀ : Nat) :
    SeqStopsK Fence.wide n Tryz.prog 124 #[.pointer (some ⟨Bs, 0, none⟩)] noEnc (Below n₀) (fun _ => True) (fun _ => True) 0 w := by
  intro l J Jx W hW hJ hJx hY h0
  have hBW : W.cell? ⟨Bs, 0, none⟩ = some (.slice sa 0 cap) := (hW.cell (p := ⟨Bs, 0, none⟩) hBs).trans hc
  refine callsIn_of_wp Tryz.func124 rfl trivial ?_ rfl
  simp only [Tryz.ntmps124, List.size_toArray, List.length_cons, List.length_nil, Nat.reduceAdd, Nat.reduceSub, Array.replicate_succ, Array.replicate_zero, List.push_toArray, List.append_toArray, List.nil_append, List.cons_append]
  gi_wp2
  gi_loopw [7] (fun i wr => i = .int .i64 0 ∧ J [] wr) (fun _ _ => 0)
  case atStart => exact ⟨rfl, h0⟩
  case round =>
    obtain ⟨rfl, hJs⟩ := hrel
    gi_wp2
    go_end0
    exact ⟨⟨_, rfl⟩, .inl ⟨[], trivial, hJs⟩⟩
set_option maxRecDepth 100000 in
set_option maxHeartbeats 2000000 in
theorem append0S (n : Nat) (hn : 3 ≤ n) {w : World} {gf : Nat} {lb : Array Value} (eg : ∀ args w, (callFunc gf args).run Tryz.prog w = .ok (.enter gf args) w)
    (hseq : ∀ m, 1 ≤ m → SeqStopsK Fence.wide m Tryz.prog gf lb noEnc (Below w.heap.size) (fun _ => True) (fun _ => True) 0 w) :
    CallsIn Fence.wide n Tryz.prog 141 #[.slice none 0 0, .func (.func gf) #[] lb] w fun e W' => (∃ a c, e = .returned (.slice a 0 c)) ∧ Below w.heap.size w W' := by
  have h1 : 1 ≤ n := by omega
  refine callsIn_of_wp_marks Tryz.func141 rfl trivial ?_ rfl
  simp only [Tryz.ntmps141, List.size_toArray, List.length_cons, List.length_nil, Nat.reduceAdd, Nat.reduceSub, Array.replicate_succ, Array.replicate_zero, List.push_toArray, List.append_toArray, List.nil_append, List.cons_append]
  gi_wp2
  have bO := Boxed.new w 46 (.slice none 0 0)
  have hB0 : Below w.heap.size w (w.alloc (.cells #[.slice none 0 0] 46)) := (Below.refl _ w).alloc (Nat.le_refl _) _
  refine wpIn_rangeFunc_ownF (α := Empty) rfl h1 (gf := gf) (lb := lb) rfl trivial eg
    (hseq (n - 1) (by omega)) belowK_t (belowK_b (by simp)) hB0 (fun x => x.elim)
    (fun pre W => (∃ v, Boxed W w.heap.size 46 v ∧ W.ownsRow w.heap.size 9 1 v 0 [] ∧ True) ∧ Below w.heap.size w W)
    (fun _ _ _ => False)
    (OwnFrom.and (Own.from (holdsRow_own w.heap.size w.heap.size 46 9 1 (fun pre : List Empty => 0) (fun pre => []) (fun pre v => True)) _) (ownFrom_below (Nat.le_refl _) (by simp)))
    (fun _ _ _ _ _ hs _ _ => hs)
    ⟨⟨_, bO, World.ownsRow_nil _ _ _ _, trivial⟩, hB0⟩
    (fun x => x.elim) (fun _ x => x.elim) (fun _ _ x => x.elim) ?done ?stop
  case done =>
    rintro D ys W hD _ ⟨⟨v, hv, hrow, _⟩, hB⟩ hK
    have hc := hv.cell
    have hvs : ∃ a c, v = .slice a 0 c := by
      rcases hrow.2 with ⟨rfl, _⟩ | ⟨g, cap, cur, rfl, _⟩
      · exact ⟨_, _, rfl⟩
      · exact ⟨_, _, rfl⟩
    gi_wp2
    refine ⟨by simp, .inl ⟨_, _, rfl, run_takeDeferred hK, ?_⟩⟩
    obtain ⟨a, c, rfl⟩ := hvs
    exact ⟨_, results_tmp rfl _ _ _, ⟨a, c, rfl⟩, hB.trans (belowK_b (w := w) (Nat.le_refl _) W D _ _ (by simp at hD; omega) hK rfl rfl)⟩
  case stop =>
    rintro D c pre W _ _ h _
    exact h.elim
theorem collect0S {w : World} {gf : Nat} {lb : Array Value} (eg : ∀ args w, (callFunc gf args).run Tryz.prog w = .ok (.enter gf args) w)
    (hseq : ∀ m, 1 ≤ m → SeqStopsK Fence.wide m Tryz.prog gf lb noEnc (Below w.heap.size) (fun _ => True) (fun _ => True) 0 w) :
    Calls Tryz.prog 122 #[.func (.func gf) #[] lb] w fun e W' => (∃ a c, e = .returned (.slice a 0 c)) ∧ Below w.heap.size w W' := by
  have HA := Lib.hid (callsIn_wide.1 (append0S 3 (by omega) eg hseq))
  clear hseq
  go_enter Tryz.func122, Tryz.ntmps122
  go_wp2_with fail
  refine HA.out.mono ?_
  rintro e w1 ⟨⟨a, c, rfl⟩, hb⟩
  have HB := Lib.hid hb
  clear hb
  go_wp2_with fail
  go_ret
  exact ⟨⟨_, _, rfl⟩, HB.out⟩

set_option maxRecDepth 100000 in
theorem len64_0 (w : World) : Calls Tryz.prog 152 #[.int .u64 0] w fun e w' => (∃ z : Int, e = .returned (.int .i64 z)) ∧ w' = w := by
  go_enter Tryz.func152, Tryz.ntmps152
  go_wp2_with fail
  go_ret
  exact ⟨⟨_, rfl⟩, rfl⟩
set_option maxRecDepth 100000 in
theorem blen_0 (w : World) : Calls Tryz.prog 128 #[.int .u64 0] w fun e w' => (∃ z : Int, e = .returned (.int .i64 z)) ∧ w' = w := by
  go_enter Tryz.func128, Tryz.ntmps128
  go_wp2_with fail
  refine (len64_0 w).mono ?_
  rintro e w1 ⟨⟨z, rfl⟩, rfl⟩
  go_wp2_with fail
  go_ret
  exact ⟨⟨_, rfl⟩, rfl⟩

set_option maxRecDepth 100000 in
theorem ins0E (a : Option Addr) (c : Nat) (cf : Value) (w : World) : Calls Tryz.prog 143 #[.slice a 0 c, .int .i64 0, .int .i64 0, cf] w fun e w' => e = .returned (.tuple #[]) ∧ w' = w := by
  go_enter Tryz.func143, Tryz.ntmps143
  go_wp2_with fail
  refine wp_loop_rounds 1 ?_
  rw [rounds_succ]
  go_wp2_with fail
  go_end0
  exact ⟨rfl, rfl⟩
set_option maxRecDepth 100000 in
theorem pdq0E (a : Option Addr) (c : Nat) (z : Int) (cf : Value) (w : World) : Calls Tryz.prog 127 #[.slice a 0 c, .int .i64 0, .int .i64 0, .int .i64 z, cf] w fun e w' => e = .returned (.tuple #[]) ∧ w' = w := by
  have HI := Lib.hid (ins0E a c cf w)
  go_enter Tryz.func127, Tryz.ntmps127
  go_wp2_with fail
  refine wp_loop_rounds 1 ?_
  rw [rounds_succ]
  go_wp2_with fail
  refine HI.out.mono ?_
  rintro e w1 ⟨rfl, rfl⟩
  go_wp2_with fail
  refine bodyPost_ret (results_none rfl _ _ _) rfl ?_
  exact ⟨rfl, rfl⟩
set_option maxRecDepth 100000 in
theorem sort0E (a : Option Addr) (c : Nat) (cf : Value) (w : World) : Calls Tryz.prog 102 #[.slice a 0 c, cf] w fun e w' => e = .returned (.tuple #[]) ∧ w' = w := by
  have HL := Lib.hid (blen_0 w)
  go_enter Tryz.func102, Tryz.ntmps102
  go_wp2_with fail
  refine HL.out.mono ?_
  rintro e w1 ⟨⟨z, rfl⟩, rfl⟩
  have HP := Lib.hid (pdq0E a c z cf w1)
  go_wp2_with fail
  refine HP.out.mono ?_
  rintro e w2 ⟨rfl, rfl⟩
  go_wp2_with fail
  go_end0
  exact ⟨rfl, rfl⟩

set_option maxRecDepth 100000 in
theorem ins0S (a : Option Addr) (c : Nat) (w : World) : Calls Tryz.prog 159 #[.slice a 0 c, .int .i64 0, .int .i64 0] w fun e w' => e = .returned (.tuple #[]) ∧ w' = w := by
  go_enter Tryz.func159, Tryz.ntmps159
  go_wp2_with fail
  refine wp_loop_rounds 1 ?_
  rw [rounds_succ]
  go_wp2_with fail
  go_end0
  exact ⟨rfl, rfl⟩
set_option maxRecDepth 100000 in
theorem pdq0S (a : Option Addr) (c : Nat) (z : Int) (w : World) : Calls Tryz.prog 142 #[.slice a 0 c, .int .i64 0, .int .i64 0, .int .i64 z] w fun e w' => e = .returned (.tuple #[]) ∧ w' = w := by
  have HI := Lib.hid (ins0S a c w)
  go_enter Tryz.func142, Tryz.ntmps142
  go_wp2_with fail
  refine wp_loop_rounds 1 ?_
  rw [rounds_succ]
  go_wp2_with fail
  refine HI.out.mono ?_
  rintro e w1 ⟨rfl, rfl⟩
  go_wp2_with fail
  refine bodyPost_ret (results_none rfl _ _ _) rfl ?_
  exact ⟨rfl, rfl⟩
set_option maxRecDepth 100000 in
theorem sort0S (a : Option Addr) (c : Nat) (w : World) : Calls Tryz.prog 123 #[.slice a 0 c] w fun e w' => e = .returned (.tuple #[]) ∧ w' = w := by
  have HL := Lib.hid (blen_0 w)
  go_enter Tryz.func123, Tryz.ntmps123
  go_wp2_with fail
  refine HL.out.mono ?_
  rintro e w1 ⟨⟨z, rfl⟩, rfl⟩
  have HP := Lib.hid (pdq0S a c z w1)
  go_wp2_with fail
  refine HP.out.mono ?_
  rintro e w2 ⟨rfl, rfl⟩
  go_wp2_with fail
  go_end0
  exact ⟨rfl, rfl⟩

set_option maxRecDepth 100000 in
theorem sorted0E {w : World} {gf : Nat} {lb : Array Value} (eg : ∀ args w, (callFunc gf args).run Tryz.prog w = .ok (.enter gf args) w)
    (hseq : ∀ m, 1 ≤ m → SeqStopsK Fence.wide m Tryz.prog gf lb noEnc (Below w.heap.size) (fun _ => True) (fun _ => True) 0 w) (cf : Value) :
    Calls Tryz.prog 68 #[.func (.func gf) #[] lb, cf] w fun e W' => (∃ a c, e = .returned (.slice a 0 c)) ∧ Below w.heap.size w W' := by
  have HA := Lib.hid (collect0E eg hseq)
  clear hseq
  go_enter Tryz.func68, Tryz.ntmps68
  go_wp2_with fail
  refine HA.out.mono ?_
  rintro e w1 ⟨⟨a, c, rfl⟩, hb⟩
  have HB := Lib.hid hb
  have HS := Lib.hid (sort0E a c cf w1)
  clear hb
  go_wp2_with fail
  refine HS.out.mono ?_
  rintro e w2 ⟨rfl, rfl⟩
  go_wp2_with fail
  go_ret
  exact ⟨⟨_, _, rfl⟩, HB.out⟩

set_option maxRecDepth 100000 in
theorem sorted0S {w : World} {gf : Nat} {lb : Array Value} (eg : ∀ args w, (callFunc gf args).run Tryz.prog w = .ok (.enter gf args) w)
    (hseq : ∀ m, 1 ≤ m → SeqStopsK Fence.wide m Tryz.prog gf lb noEnc (Below w.heap.size) (fun _ => True) (fun _ => True) 0 w) :
    Calls Tryz.prog 96 #[.func (.func gf) #[] lb] w fun e W' => (∃ a c, e = .returned (.slice a 0 c)) ∧ Below w.heap.size w W' := by
  have HA := Lib.hid (collect0S eg hseq)
  clear hseq
  go_enter Tryz.func96, Tryz.ntmps96
  go_wp2_with fail
  refine HA.out.mono ?_
  rintro e w1 ⟨⟨a, c, rfl⟩, hb⟩
  have HB := Lib.hid hb
  have HS := Lib.hid (sort0S a c w1)
  clear hb
  go_wp2_with fail
  refine HS.out.mono ?_
  rintro e w2 ⟨rfl, rfl⟩
  go_wp2_with fail
  go_ret
  exact ⟨⟨_, _, rfl⟩, HB.out⟩

end Go.Proofs.YtbdgcfimbblncaaGreatDoor
end PkMB2_0
section PkMB2_1
/- Values told of by a property; a row that a call owns, where its block stands. -/
namespace Go.Proofs.YtbdgcfimbblncaaGreatDoor
open Go.RowKit
set_option linter.unusedVariables false

/-- values that are known, or told of by a property -/
def FV (vals : Nat → Option Value) (sp : Value → World → Prop) (j : Nat) (u : Value) (w : World) : Prop := match vals j with | some v => u = v | none => sp u w
theorem FV.mono {vals : Nat → Option Value} {sp : Value → World → Prop} {w w' : World} (h : ∀ u, sp u w → sp u w') : ∀ j y, FV vals sp j y w → FV vals sp j y w' := fun j y hy => by
  unfold FV at hy ⊢
  split at hy
  · exact hy
  · exact h y hy

/-- the same, each operation with a property of its own -/
def FV2 (vals : Nat → Option Value) (sp : Nat → Value → World → Prop) (j : Nat) (u : Value) (w : World) : Prop := match vals j with | some v => u = v | none => sp j u w
theorem FV2.mono {vals : Nat → Option Value} {sp : Nat → Value → World → Prop} {w w' : World} (h : ∀ j u, sp j u w → sp j u w') : ∀ j y, FV2 vals sp j y w → FV2 vals sp j y w' := fun j y hy => by
  unfold FV2 at hy ⊢
  split at hy
  · exact hy
  · exact h j y hy
theorem own_heap {w w' : World} {base : Nat} {e : TypeId} {size : Nat} {v : Value} {n : Nat} {xs : List Value} (h : w.ownsRow base e size v n xs) (hb : ∀ g, v.ownBlock = some g → w'.heap[g]? = w.heap[g]?) : w'.ownsRow base e size v n xs := by
  refine ⟨h.1, ?_⟩
  rcases h.2 with h0 | ⟨g, cap, cur, h1, h2, h3, h4⟩
  · exact .inl h0
  · refine .inr ⟨g, cap, cur, h1, h2, ?_, h4⟩
    rw [hb g (by rw [h1]; rfl)]; exact h3
end Go.Proofs.YtbdgcfimbblncaaGreatDoor
end PkMB2_1
section PkMB2_2
/- A region whose operations come up in any order: walked once for each operation, not once for each order. -/
namespace Go.Proofs.YtbdgcfimbblncaaGreatDoor
open Go.RowKit
set_option linter.unusedVariables false

def slotOf (ops : Array Oper) (i : Nat) : Option Tmp := (ops[i]?).bind (·.dst)
def upd (v : Nat → Value) (i : Nat) (x : Value) : Nat → Value := fun j => if j = i then x else v j
/-- a state in which the first k operations have left these values -/
def fill (ops : Array Oper) (a : Act) (v : Nat → Value) : Nat → Act
  | 0 => a
  | k + 1 => (fill ops a v k).put (slotOf ops k) (v k)
theorem put_put (a : Act) (d : Option Tmp) (x y : Value) : (a.put d x).put d y = a.put d y := by
  cases d with
  | none => rfl
  | some d => simp [Act.put]
theorem put_self (a : Act) (d : Tmp) : a.put (some d) (a.tmps.getD d undef) = a := by
  obtain ⟨t, f⟩ := a
  show (⟨t.setIfInBounds d (t.getD d undef), f⟩ : Act) = ⟨t, f⟩
  congr 1
  apply Array.ext
  · simp
  · intro i h1 h2
    rw [Array.getElem_setIfInBounds]
    split
    · rename_i e; subst e; simp [h2]
    · rfl
theorem fill_ext {ops : Array Oper} {a : Act} {v u : Nat → Value} : ∀ k, (∀ j, j < k → v j = u j) → fill ops a v k = fill ops a u k
  | 0, _ => rfl
  | k + 1, h => by rw [fill, fill, fill_ext k (fun j hj => h j (by omega)), h k (by omega)]
theorem fill_self {ops : Array Oper} {a : Act} : ∀ k, fill ops a (fun i => match slotOf ops i with | some d => a.tmps.getD d undef | none => undef) k = a
  | 0 => rfl
  | k + 1 => by
    rw [fill, fill_self k]
    cases h : slotOf ops k with
    | none => rfl
    | some d => exact put_self a d
theorem fill_upd {ops : Array Oper} {a : Act} {v : Nat → Value} {n : Nat} (hne : ∀ i j d, i < n → j < n → slotOf ops i = some d → slotOf ops j = some d → i = j) {i : Nat} (x : Value) :
    ∀ k, i < k → k ≤ n → (fill ops a v k).put (slotOf ops i) x = fill ops a (upd v i x) k
  | 0, h, _ => by omega
  | k + 1, h, hk => by
    rcases Nat.lt_or_ge i k with g | g
    · have hx : upd v i x k = v k := by unfold upd; rw [if_neg (by omega)]
      rw [fill, fill, ← fill_upd hne x k g (by omega), hx, Act.put_comm _ _ _ (fun d hd hd2 => by have := hne i k d (by omega) (by omega) hd2 hd; omega)]
    · obtain rfl : i = k := by omega
      have hx : upd v i x i = x := by unfold upd; rw [if_pos rfl]
      rw [fill, fill, put_put, hx, show fill ops a (upd v i x) i = fill ops a v i from fill_ext i (fun j hj => by unfold upd; rw [if_neg (by omega)])]

theorem filter_less {α : Type} {p q : α → Bool} (h : ∀ x, q x = true → p x = true) {y : α} (hy : p y = true) (hn : q y = false) : ∀ l : List α, y ∈ l → (l.filter q).length < (l.filter p).length
  | [], hm => by cases hm
  | x :: l, hm => by
    have hle : (l.filter q).length ≤ (l.filter p).length := by
      clear hm
      induction l with
      | nil => exact Nat.le_refl _
      | cons z l ih =>
        cases hq : q z with
        | true => rw [List.filter_cons_of_pos hq, List.filter_cons_of_pos (h z hq)]; simpa using ih
        | false =>
          rw [List.filter_cons_of_neg (by simp [hq])]
          cases hp : p z with
          | true => rw [List.filter_cons_of_pos hp, List.length_cons]; omega
          | false => rw [List.filter_cons_of_neg (by simp [hp])]; exact ih
    rcases List.mem_cons.1 hm with rfl | hm
    · rw [List.filter_cons_of_neg (by simp [hn]), List.filter_cons_of_pos hy, List.length_cons]; omega
    · have ih := filter_less h hy hn l hm
      cases hq : q x with
      | true => rw [List.filter_cons_of_pos hq, List.filter_cons_of_pos (h x hq), List.length_cons, List.length_cons]; omega
      | false =>
        rw [List.filter_cons_of_neg (by simp [hq])]
        cases hp : p x with
        | true => rw [List.filter_cons_of_pos hp, List.length_cons]; omega
        | false => rw [List.filter_cons_of_neg (by simp [hp])]; exact ih

/-- The law. J: what is held of the world all along; F i x w: what is known of operation i's value once it has come up. -/
theorem wp_region_fill {P : Program} {ops : Array Oper} {Q : Exit → Act → World → Prop} {id : Nat} {a : Act} {w : World} (hm : P.follows .mixedOrders = true)
    (hne : ((List.range ops.size).all fun i => (List.range ops.size).all fun j => decide (i = j) || (slotOf ops i == none) || !(slotOf ops i == slotOf ops j)) = true)
    (hac : ((List.range ops.size).all fun i => (ops[i]?).all fun (o : Oper) => o.after.all fun (e : Edge) => !Region.binds .any e || decide (e.on < i)) = true)
    (J : World → Prop) (F : Nat → Value → World → Prop) (hJ : J w.drew)
    (step : ∀ (i : Nat) (o : Oper), ops[i]? = some o → ∀ (v : Nat → Value) (w1 : World) (K : Act → World → Prop), J w1 → (∀ e : Edge, e ∈ o.after → Region.binds .any e = true → F e.on (v e.on) w1) →
      (∀ x w2, J w2 → F i x w2 → (∀ j y, F j y w1 → F j y w2) → ∀ a2, a2 = (fill ops a v ops.size).put o.dst x → K a2 w2) →
      if Region.wanted o (yielded ops (fill ops a v ops.size).tmps) = true then Oper.wp P o (fill ops a v ops.size) w1 K Q else K ((fill ops a v ops.size).put o.dst undef) w1)
    (last : ∀ (v : Nat → Value) (w1 : World), J w1 → (∀ i, i < ops.size → F i (v i) w1) → Q .normal (fill ops a v ops.size) w1) : (Code.region id ops true).wp P Q a w := by
  have hne2 : ∀ i j d, i < ops.size → j < ops.size → slotOf ops i = some d → slotOf ops j = some d → i = j := by
    intro i j d hi hj h1 h2
    have := List.all_eq_true.1 (List.all_eq_true.1 hne i (List.mem_range.2 hi)) j (List.mem_range.2 hj)
    rw [h1, h2] at this
    simpa using this
  have hac2 : ∀ (i : Nat) (o : Oper), ops[i]? = some o → ∀ e : Edge, e ∈ o.after → Region.binds .any e = true → e.on < i := by
    intro i o ho e he hb
    have hlt := (Array.getElem?_eq_some_iff.1 ho).1
    have := List.all_eq_true.1 hac i (List.mem_range.2 hlt)
    rw [ho] at this
    have h3 : (o.after.all fun (e : Edge) => !Region.binds .any e || decide (e.on < i)) = true := this
    have h2 := Array.all_eq_true_iff_forall_mem.1 h3 e he
    rw [hb] at h2
    simpa using h2
  refine wp_region_any hm ?_
  have key : ∀ (fuel : Nat) (listed : Array Bool) (v : Nat → Value) (w1 : World), listed.size = ops.size → J w1 → (∀ i, listed.getD i false = true → F i (v i) w1) →
      ((List.range ops.size).filter fun i => !listed.getD i true).length ≤ fuel → wpAny P .any ops Q fuel listed (fill ops a v ops.size) w1 := by
    intro fuel
    induction fuel with
    | zero =>
      intro listed v w1 hsz hj hf hc
      have hall : ∀ i, i < ops.size → listed.getD i true = true := by
        intro i hi
        cases hl : listed.getD i true with
        | true => rfl
        | false =>
          have : i ∈ (List.range ops.size).filter fun i => !listed.getD i true := List.mem_filter.2 ⟨List.mem_range.2 hi, by rw [hl]; rfl⟩
          rw [List.eq_nil_of_length_eq_zero (by omega : ((List.range ops.size).filter fun i => !listed.getD i true).length = 0)] at this
          cases this
      have hr : Region.ready .any ops listed = [] := by
        rw [List.eq_nil_iff_forall_not_mem]
        intro i hi
        obtain ⟨h1, o, ho, _⟩ := mem_ready.1 hi
        rw [hall i (Array.getElem?_eq_some_iff.1 ho).1] at h1
        cases h1
      refine ⟨hr, last v w1 hj fun i hi => hf i ?_⟩
      have := hall i hi
      simpa [hsz, hi] using this
    | succ fuel ih =>
      intro listed v w1 hsz hj hf hc
      refine ⟨fun hr => last v w1 hj fun i hi => hf i ?_, fun i hi => ?_⟩
      · have : ∀ k, k < ops.size → listed.getD k false = true := by
          intro k
          induction k using Nat.strongRecOn with
          | _ k ihk =>
            intro hk
            cases hl : listed.getD k false with
            | true => rfl
            | false =>
              exfalso
              have hmem : k ∈ Region.ready .any ops listed := mem_ready.2 ⟨by simpa [hsz, hk] using hl, ops[k], by simp [hk], fun e he hb => ihk e.on (hac2 k _ (by simp [hk]) e he hb) (by have := hac2 k _ (by simp [hk] : ops[k]? = some ops[k]) e he hb; omega)⟩
              rw [hr] at hmem
              cases hmem
        exact this i hi
      · obtain ⟨h1, o, ho, h2⟩ := mem_ready.1 hi
        have hlt : i < ops.size := (Array.getElem?_eq_some_iff.1 ho).1
        have hst := step i o ho v w1 (wpAny P .any ops Q fuel (listed.setIfInBounds i true)) hj (fun e he hb => hf e.on (h2 e he hb)) (fun x w2 hj2 hF hmono a2 ha2 => by
          have hso : slotOf ops i = o.dst := by unfold slotOf; rw [ho]; rfl
          rw [ha2, ← hso, fill_upd hne2 x ops.size hlt (Nat.le_refl _)]
          refine ih (listed.setIfInBounds i true) (upd v i x) w2 (by simpa using hsz) hj2 (fun j hjl => ?_) ?_
          · unfold upd
            by_cases e : j = i
            · rw [if_pos e, e]; exact hF
            · rw [if_neg e]
              refine hmono j _ (hf j ?_)
              have hji : ¬ i = j := fun h => e h.symm
              simpa [Array.getD_eq_getD_getElem?, Array.getElem?_setIfInBounds, hji] using hjl
          · have hlt3 := filter_less (p := fun i => !listed.getD i true) (q := fun j => !(listed.setIfInBounds i true).getD j true) (y := i) (fun j hjq => by
              by_cases e : i = j
              · subst e; simpa using h1
              · simpa [Array.getD_eq_getD_getElem?, Array.getElem?_setIfInBounds, e] using hjq) (by simpa using h1) (by simp [Array.getD_eq_getD_getElem?, hsz, hlt]) (List.range ops.size) (List.mem_range.2 hlt)
            omega)
        unfold wpOp
        rw [ho]
        show if Region.wanted o (yielded ops (fill ops a v ops.size).tmps) = true then _ else _
        split at hst
        · rename_i hw; rw [if_pos hw]; exact .inl hst
        · rename_i hw; rw [if_neg hw]; exact hst
  have h0 := key ops.size (Array.replicate ops.size false) (fun i => match slotOf ops i with | some d => a.tmps.getD d undef | none => undef) w.drew (by simp) hJ (fun i hi => by
    exfalso
    by_cases hlt : i < ops.size <;> simp [Array.getD_eq_getD_getElem?, hlt] at hi) (Nat.le_trans (List.length_filter_le _ _) (by simp))
  rw [fill_self] at h0
  exact h0

/-- The law at its widest: I L v w: what holds when the operations of L have come up and left the values v. -/
theorem wp_region_inv {P : Program} {ops : Array Oper} {Q : Exit → Act → World → Prop} {id : Nat} {a : Act} {w : World} (hm : P.follows .mixedOrders = true)
    (hne : ((List.range ops.size).all fun i => (List.range ops.size).all fun j => decide (i = j) || (slotOf ops i == none) || !(slotOf ops i == slotOf ops j)) = true)
    (hac : ((List.range ops.size).all fun i => (ops[i]?).all fun (o : Oper) => o.after.all fun (e : Edge) => !Region.binds .any e || decide (e.on < i)) = true)
    (I : (Nat → Bool) → (Nat → Value) → World → Prop) (h0 : ∀ v, I (fun _ => false) v w.drew)
    (step : ∀ (i : Nat) (o : Oper), ops[i]? = some o → ∀ (L : Nat → Bool) (v : Nat → Value) (w1 : World) (K : Act → World → Prop), I L v w1 → L i = false → (∀ e : Edge, e ∈ o.after → Region.binds .any e = true → L e.on = true) →
      (∀ x w2, I (fun j => L j || decide (j = i)) (upd v i x) w2 → ∀ a2, a2 = (fill ops a v ops.size).put o.dst x → K a2 w2) →
      if Region.wanted o (yielded ops (fill ops a v ops.size).tmps) = true then Oper.wp P o (fill ops a v ops.size) w1 K Q else K ((fill ops a v ops.size).put o.dst undef) w1)
    (last : ∀ (L : Nat → Bool) (v : Nat → Value) (w1 : World), I L v w1 → (∀ i, i < ops.size → L i = true) → Q .normal (fill ops a v ops.size) w1) : (Code.region id ops true).wp P Q a w := by
  have hne2 : ∀ i j d, i < ops.size → j < ops.size → slotOf ops i = some d → slotOf ops j = some d → i = j := by
    intro i j d hi hj h1 h2
    have := List.all_eq_true.1 (List.all_eq_true.1 hne i (List.mem_range.2 hi)) j (List.mem_range.2 hj)
    rw [h1, h2] at this
    simpa using this
  have hac2 : ∀ (i : Nat) (o : Oper), ops[i]? = some o → ∀ e : Edge, e ∈ o.after → Region.binds .any e = true → e.on < i := by
    intro i o ho e he hb
    have hlt := (Array.getElem?_eq_some_iff.1 ho).1
    have := List.all_eq_true.1 hac i (List.mem_range.2 hlt)
    rw [ho] at this
    have h3 : (o.after.all fun (e : Edge) => !Region.binds .any e || decide (e.on < i)) = true := this
    have h2 := Array.all_eq_true_iff_forall_mem.1 h3 e he
    rw [hb] at h2
    simpa using h2
  refine wp_region_any hm ?_
  have key : ∀ (fuel : Nat) (listed : Array Bool) (v : Nat → Value) (w1 : World), listed.size = ops.size → I (fun i => listed.getD i false) v w1 →
      ((List.range ops.size).filter fun i => !listed.getD i true).length ≤ fuel → wpAny P .any ops Q fuel listed (fill ops a v ops.size) w1 := by
    intro fuel
    induction fuel with
    | zero =>
      intro listed v w1 hsz hI hc
      have hall : ∀ i, i < ops.size → listed.getD i true = true := by
        intro i hi
        cases hl : listed.getD i true with
        | true => rfl
        | false =>
          have : i ∈ (List.range ops.size).filter fun i => !listed.getD i true := List.mem_filter.2 ⟨List.mem_range.2 hi, by rw [hl]; rfl⟩
          rw [List.eq_nil_of_length_eq_zero (by omega : ((List.range ops.size).filter fun i => !listed.getD i true).length = 0)] at this
          cases this
      have hr : Region.ready .any ops listed = [] := by
        rw [List.eq_nil_iff_forall_not_mem]
        intro i hi
        obtain ⟨h1, o, ho, _⟩ := mem_ready.1 hi
        rw [hall i (Array.getElem?_eq_some_iff.1 ho).1] at h1
        cases h1
      refine ⟨hr, last _ v w1 hI fun i hi => ?_⟩
      have := hall i hi
      simpa [hsz, hi] using this
    | succ fuel ih =>
      intro listed v w1 hsz hI hc
      refine ⟨fun hr => last _ v w1 hI fun i hi => ?_, fun i hi => ?_⟩
      · have : ∀ k, k < ops.size → listed.getD k false = true := by
          intro k
          induction k using Nat.strongRecOn with
          | _ k ihk =>
            intro hk
            cases hl : listed.getD k false with
            | true => rfl
            | false =>
              exfalso
              have hmem : k ∈ Region.ready .any ops listed := mem_ready.2 ⟨by simpa [hsz, hk] using hl, ops[k], by simp [hk], fun e he hb => ihk e.on (hac2 k _ (by simp [hk]) e he hb) (by have := hac2 k _ (by simp [hk] : ops[k]? = some ops[k]) e he hb; omega)⟩
              rw [hr] at hmem
              cases hmem
        exact this i hi
      · obtain ⟨h1, o, ho, h2⟩ := mem_ready.1 hi
        have hlt : i < ops.size := (Array.getElem?_eq_some_iff.1 ho).1
        have hst := step i o ho (fun i => listed.getD i false) v w1 (wpAny P .any ops Q fuel (listed.setIfInBounds i true)) hI (by simpa [hsz, hlt] using h1) h2 (fun x w2 hI2 a2 ha2 => by
          have hso : slotOf ops i = o.dst := by unfold slotOf; rw [ho]; rfl
          rw [ha2, ← hso, fill_upd hne2 x ops.size hlt (Nat.le_refl _)]
          refine ih (listed.setIfInBounds i true) (upd v i x) w2 (by simpa using hsz) ?_ ?_
          · have he : (fun j => (listed.setIfInBounds i true).getD j false) = fun j => listed.getD j false || decide (j = i) := by
              funext j
              by_cases e : j = i
              · subst e; simp [Array.getD_eq_getD_getElem?, hsz, hlt]
              · have e2 : ¬ i = j := fun h => e h.symm
                simp [Array.getD_eq_getD_getElem?, e, e2]
            rw [he]; exact hI2
          · have hlt3 := filter_less (p := fun i => !listed.getD i true) (q := fun j => !(listed.setIfInBounds i true).getD j true) (y := i) (fun j hjq => by
              by_cases e : i = j
              · subst e; simpa using h1
              · simpa [Array.getD_eq_getD_getElem?, Array.getElem?_setIfInBounds, e] using hjq) (by simpa using h1) (by simp [Array.getD_eq_getD_getElem?, hsz, hlt]) (List.range ops.size) (List.mem_range.2 hlt)
            omega)
        unfold wpOp
        rw [ho]
        show if Region.wanted o (yielded ops (fill ops a v ops.size).tmps) = true then _ else _
        split at hst
        · rename_i hw; rw [if_pos hw]; exact .inl hst
        · rename_i hw; rw [if_neg hw]; exact hst
  have hk := key ops.size (Array.replicate ops.size false) (fun i => match slotOf ops i with | some d => a.tmps.getD d undef | none => undef) w.drew (by simp) (by
    have he : (fun i => (Array.replicate ops.size false).getD i false) = fun _ => false := by
      funext i
      by_cases hlt : i < ops.size <;> simp [Array.getD_eq_getD_getElem?, hlt]
    rw [he]; exact h0 _) (Nat.le_trans (List.length_filter_le _ _) (by simp))
  rw [fill_self] at hk
  exact hk
end Go.Proofs.YtbdgcfimbblncaaGreatDoor
end PkMB2_2
section PkMB2_3
/- Manifests: what layer 13's fixed edit meets ahead of its making, walked. Written by genmfd.py. -/
namespace Go.Proofs.YtbdgcfimbblncaaGreatDoor
open Go.RowKit LabPlain
set_option linter.unusedVariables false

theorem mark_info : (Tryz.prog.info? 43).map (fun i => (i.zero, i.size, i.bytes)) = some (some (.agg #[.int .i64 0, .int .i64 0]), 2, 16) := by kernel_rfl
theorem own_info : (Tryz.prog.info? 45).map (fun i => (i.zero, i.size, i.bytes)) = some (some (.agg #[.int .i64 0, .int .i64 0, .int .i64 0]), 3, 24) := by kernel_rfl

set_option maxRecDepth 100000 in
set_option maxHeartbeats 4000000 in
theorem rising_one {w : World} {a : Option Addr} {c : Nat} {x y : Int} (h : VecAt MarkS w a 1 c [(x, y)]) (h1 : 1 ≤ x ∧ x ≤ 64) (h2 : 1 ≤ y ∧ y ≤ 1099511627775) (cf : Value) :
    Calls Tryz.prog 39 #[.slice a 1 c, cf, .func (.func 41) #[] #[]] w fun e w' => e = .returned (.bool true) ∧ Below w.heap.size w w' := by
  have hcap := h.cap
  have hcm := h.capm
  have HR1 := Lib.hid h1
  have HR2 := Lib.hid h2
  have HH := Lib.hid h
  clear h h1 h2
  go_enter Tryz.func39, Tryz.ntmps39
  go_wp2_with fail
  go_loopw [7, 8, 11] (fun _ _ s11 wr => ∃ k : Nat, k ≤ 1 ∧ s11 = .int .i64 (k : Int) ∧ Hid (Below w.heap.size w wr)) (fun _ _ s11 _ => 1 - (intOf s11).toNat)
  case atStart => exact ⟨0, by omega, rfl, Lib.hid (Below.refl _ _)⟩
  case round =>
    obtain ⟨k, hk, rfl, HB⟩ := hrel
    rename World => wr
    by_cases hkn : k = 0
    · subst hkn
      obtain ⟨sb, so, rfl, hsl, _, hsc9⟩ := (HH.out.kept HB.out).get (show 0 < 1 by omega)
      have d0 : wr.cell? ⟨sb, so, none⟩ = some (.int .i64 x) := by simpa using hsc9 0 _ rfl
      have d1 : wr.cell? ⟨sb, so + 1, none⟩ = some (.int .i64 y) := by simpa using hsc9 1 _ rfl
      have HXA := Lib.hid (heap_alloc_new wr (.cells #[.int .i64 x, .int .i64 y] 43))
      have HXL := Lib.hid ((Array.getElem?_eq_some_iff.1 (heap_alloc_new wr (.cells #[.int .i64 x, .int .i64 y] 43))).1)
      have HAL := Lib.hid (show Below w.heap.size w (wr.alloc (.cells #[.int .i64 x, .int .i64 y] 43)) from HB.out.alloc HB.out.size _)
      clear hsc9 hsl
      go_wp2_with fail
      refine wp_region_fill (by kernel_rfl) (by kernel_rfl) (by kernel_rfl) (Below (wr.alloc (.cells #[.int .i64 x, .int .i64 y] 43)).heap.size (wr.alloc (.cells #[.int .i64 x, .int .i64 y] 43))) (FV (fun j_9 => match j_9 with | 0 => some (.func (.func 41) #[] #[]) | 1 => some (.agg #[.int .i64 x, .int .i64 y]) | 2 => some (.bool true) | 3 => some (.bool false) | 4 => some (.bool false) | 5 => some (.int .i64 0) | 6 => some (.bool false) | 7 => some (.bool false) | 8 => some (undef) | 9 => some (undef) | 10 => some (undef) | 11 => some (undef) | 12 => some (undef) | 13 => some (undef) | 14 => some (undef) | 15 => some (undef) | 16 => some (undef) | 17 => some (.bool false) | 18 => some (.bool false) | _ => none) (fun _ _ => True)) (Below.refl _ _).drew ?_ ?_
      · intro i9 o ho V w9 K hJ hdep hK
        have HJ := Lib.hid hJ
        simp only [fill, slotOf, List.size_toArray, List.length_cons, List.length_nil, Nat.reduceAdd, List.getElem?_toArray, List.getElem?_cons_zero, List.getElem?_cons_succ, Option.bind_some, Act.put, List.setIfInBounds_toArray, List.set_cons_zero, List.set_cons_succ] at hK ⊢
        have hin : i9 < 19 := (Array.getElem?_eq_some_iff.1 ho).1
        have hcs : i9 = 0 ∨ i9 = 1 ∨ i9 = 2 ∨ i9 = 3 ∨ i9 = 4 ∨ i9 = 5 ∨ i9 = 6 ∨ i9 = 7 ∨ i9 = 8 ∨ i9 = 9 ∨ i9 = 10 ∨ i9 = 11 ∨ i9 = 12 ∨ i9 = 13 ∨ i9 = 14 ∨ i9 = 15 ∨ i9 = 16 ∨ i9 = 17 ∨ i9 = 18 := by omega
        clear hin
        rcases hcs with rfl | rfl | rfl | rfl | rfl | rfl | rfl | rfl | rfl | rfl | rfl | rfl | rfl | rfl | rfl | rfl | rfl | rfl | rfl
        · obtain rfl := Option.some.inj ho.symm
          clear hdep ho hJ
          try simp only [fill, slotOf, List.size_toArray, List.length_cons, List.length_nil, Nat.reduceAdd, List.getElem?_toArray, List.getElem?_cons_zero, List.getElem?_cons_succ, Option.bind_some, Act.put, List.setIfInBounds_toArray, List.set_cons_zero, List.set_cons_succ] at hK ⊢
          go_simp
          exact hK (.func (.func 41) #[] #[]) _ HJ.out rfl (fun j y h => h) _ rfl
        · obtain rfl := Option.some.inj ho.symm
          have e0 : w9.cell? ⟨wr.heap.size, 0, none⟩ = some (.int .i64 x) := (hJ.cell (p := ⟨wr.heap.size, 0, none⟩) HXL.out).trans (cell_blk HXA.out rfl)
          have e1 : w9.cell? ⟨wr.heap.size, 1, none⟩ = some (.int .i64 y) := (hJ.cell (p := ⟨wr.heap.size, 1, none⟩) HXL.out).trans (cell_blk HXA.out rfl)
          clear hdep ho hJ
          try simp only [fill, slotOf, List.size_toArray, List.length_cons, List.length_nil, Nat.reduceAdd, List.getElem?_toArray, List.getElem?_cons_zero, List.getElem?_cons_succ, Option.bind_some, Act.put, List.setIfInBounds_toArray, List.set_cons_zero, List.set_cons_succ] at hK ⊢
          go_simp
          exact hK (.agg #[.int .i64 x, .int .i64 y]) _ HJ.out rfl (fun j y h => h) _ rfl
        · obtain rfl := Option.some.inj ho.symm
          have d0 : V 0 = .func (.func 41) #[] #[] := hdep ⟨0, .data⟩ (by simp) rfl
          have d1 : V 1 = .agg #[.int .i64 x, .int .i64 y] := hdep ⟨1, .data⟩ (by simp) rfl
          clear hdep ho hJ
          try simp only [fill, slotOf, List.size_toArray, List.length_cons, List.length_nil, Nat.reduceAdd, List.getElem?_toArray, List.getElem?_cons_zero, List.getElem?_cons_succ, Option.bind_some, Act.put, List.setIfInBounds_toArray, List.set_cons_zero, List.set_cons_succ] at hK ⊢
          rw [d0, d1] at hK ⊢
          go_simp
          refine (rightMark_yes HR1.out HR2.out w9).mono ?_
          rintro e w8 ⟨rfl, hb8⟩
          exact hK (.bool true) _ (HJ.out.trans (hb8.mono HJ.out.size)) rfl (FV.mono ((fun _ _ _ => trivial) hb8)) _ rfl
        · obtain rfl := Option.some.inj ho.symm
          have d2 : V 2 = .bool true := hdep ⟨2, .data⟩ (by simp) rfl
          clear hdep ho hJ
          try simp only [fill, slotOf, List.size_toArray, List.length_cons, List.length_nil, Nat.reduceAdd, List.getElem?_toArray, List.getElem?_cons_zero, List.getElem?_cons_succ, Option.bind_some, Act.put, List.setIfInBounds_toArray, List.set_cons_zero, List.set_cons_succ] at hK ⊢
          rw [d2] at hK ⊢
          go_simp
          exact hK (.bool false) _ HJ.out rfl (fun j y h => h) _ rfl
        · obtain rfl := Option.some.inj ho.symm
          have d3 : V 3 = .bool false := hdep ⟨3, .data⟩ (by simp) rfl
          clear hdep ho hJ
          try simp only [fill, slotOf, List.size_toArray, List.length_cons, List.length_nil, Nat.reduceAdd, List.getElem?_toArray, List.getElem?_cons_zero, List.getElem?_cons_succ, Option.bind_some, Act.put, List.setIfInBounds_toArray, List.set_cons_zero, List.set_cons_succ] at hK ⊢
          rw [d3] at hK ⊢
          go_simp
          exact hK (.bool false) _ HJ.out rfl (fun j y h => h) _ rfl
        · obtain rfl := Option.some.inj ho.symm
          have d4 : V 4 = .bool false := hdep ⟨4, .guard⟩ (by simp) rfl
          clear hdep ho hJ
          try simp only [fill, slotOf, List.size_toArray, List.length_cons, List.length_nil, Nat.reduceAdd, List.getElem?_toArray, List.getElem?_cons_zero, List.getElem?_cons_succ, Option.bind_some, Act.put, List.setIfInBounds_toArray, List.set_cons_zero, List.set_cons_succ] at hK ⊢
          rw [d4] at hK ⊢
          go_simp
          exact hK (.int .i64 0) _ HJ.out rfl (fun j y h => h) _ rfl
        · obtain rfl := Option.some.inj ho.symm
          have d5 : V 5 = .int .i64 0 := hdep ⟨5, .data⟩ (by simp) rfl
          have d4 : V 4 = .bool false := hdep ⟨4, .guard⟩ (by simp) rfl
          clear hdep ho hJ
          try simp only [fill, slotOf, List.size_toArray, List.length_cons, List.length_nil, Nat.reduceAdd, List.getElem?_toArray, List.getElem?_cons_zero, List.getElem?_cons_succ, Option.bind_some, Act.put, List.setIfInBounds_toArray, List.set_cons_zero, List.set_cons_succ] at hK ⊢
          rw [d5, d4] at hK ⊢
          go_simp
          exact hK (.bool false) _ HJ.out rfl (fun j y h => h) _ rfl
        · obtain rfl := Option.some.inj ho.symm
          have d6 : V 6 = .bool false := hdep ⟨6, .data⟩ (by simp) rfl
          have d4 : V 4 = .bool false := hdep ⟨4, .guard⟩ (by simp) rfl
          clear hdep ho hJ
          try simp only [fill, slotOf, List.size_toArray, List.length_cons, List.length_nil, Nat.reduceAdd, List.getElem?_toArray, List.getElem?_cons_zero, List.getElem?_cons_succ, Option.bind_some, Act.put, List.setIfInBounds_toArray, List.set_cons_zero, List.set_cons_succ] at hK ⊢
          rw [d6, d4] at hK ⊢
          go_simp
          exact hK (.bool false) _ HJ.out rfl (fun j y h => h) _ rfl
        · obtain rfl := Option.some.inj ho.symm
          have d7 : V 7 = .bool false := hdep ⟨7, .guard⟩ (by simp) rfl
          clear hdep ho hJ
          try simp only [fill, slotOf, List.size_toArray, List.length_cons, List.length_nil, Nat.reduceAdd, List.getElem?_toArray, List.getElem?_cons_zero, List.getElem?_cons_succ, Option.bind_some, Act.put, List.setIfInBounds_toArray, List.set_cons_zero, List.set_cons_succ] at hK ⊢
          rw [d7] at hK ⊢
          go_simp
          exact hK (undef) _ HJ.out rfl (fun j y h => h) _ rfl
        · obtain rfl := Option.some.inj ho.symm
          have d7 : V 7 = .bool false := hdep ⟨7, .guard⟩ (by simp) rfl
          clear hdep ho hJ
          try simp only [fill, slotOf, List.size_toArray, List.length_cons, List.length_nil, Nat.reduceAdd, List.getElem?_toArray, List.getElem?_cons_zero, List.getElem?_cons_succ, Option.bind_some, Act.put, List.setIfInBounds_toArray, List.set_cons_zero, List.set_cons_succ] at hK ⊢
          rw [d7] at hK ⊢
          go_simp
          exact hK (undef) _ HJ.out rfl (fun j y h => h) _ rfl
        · obtain rfl := Option.some.inj ho.symm
          have d7 : V 7 = .bool false := hdep ⟨7, .guard⟩ (by simp) rfl
          clear hdep ho hJ
          try simp only [fill, slotOf, List.size_toArray, List.length_cons, List.length_nil, Nat.reduceAdd, List.getElem?_toArray, List.getElem?_cons_zero, List.getElem?_cons_succ, Option.bind_some, Act.put, List.setIfInBounds_toArray, List.set_cons_zero, List.set_cons_succ] at hK ⊢
          rw [d7] at hK ⊢
          go_simp
          exact hK (undef) _ HJ.out rfl (fun j y h => h) _ rfl
        · obtain rfl := Option.some.inj ho.symm
          have d7 : V 7 = .bool false := hdep ⟨7, .guard⟩ (by simp) rfl
          clear hdep ho hJ
          try simp only [fill, slotOf, List.size_toArray, List.length_cons, List.length_nil, Nat.reduceAdd, List.getElem?_toArray, List.getElem?_cons_zero, List.getElem?_cons_succ, Option.bind_some, Act.put, List.setIfInBounds_toArray, List.set_cons_zero, List.set_cons_succ] at hK ⊢
          rw [d7] at hK ⊢
          go_simp
          exact hK (undef) _ HJ.out rfl (fun j y h => h) _ rfl
        · obtain rfl := Option.some.inj ho.symm
          have d7 : V 7 = .bool false := hdep ⟨7, .guard⟩ (by simp) rfl
          clear hdep ho hJ
          try simp only [fill, slotOf, List.size_toArray, List.length_cons, List.length_nil, Nat.reduceAdd, List.getElem?_toArray, List.getElem?_cons_zero, List.getElem?_cons_succ, Option.bind_some, Act.put, List.setIfInBounds_toArray, List.set_cons_zero, List.set_cons_succ] at hK ⊢
          rw [d7] at hK ⊢
          go_simp
          exact hK (undef) _ HJ.out rfl (fun j y h => h) _ rfl
        · obtain rfl := Option.some.inj ho.symm
          have d7 : V 7 = .bool false := hdep ⟨7, .guard⟩ (by simp) rfl
          clear hdep ho hJ
          try simp only [fill, slotOf, List.size_toArray, List.length_cons, List.length_nil, Nat.reduceAdd, List.getElem?_toArray, List.getElem?_cons_zero, List.getElem?_cons_succ, Option.bind_some, Act.put, List.setIfInBounds_toArray, List.set_cons_zero, List.set_cons_succ] at hK ⊢
          rw [d7] at hK ⊢
          go_simp
          exact hK (undef) _ HJ.out rfl (fun j y h => h) _ rfl
        · obtain rfl := Option.some.inj ho.symm
          have d7 : V 7 = .bool false := hdep ⟨7, .guard⟩ (by simp) rfl
          clear hdep ho hJ
          try simp only [fill, slotOf, List.size_toArray, List.length_cons, List.length_nil, Nat.reduceAdd, List.getElem?_toArray, List.getElem?_cons_zero, List.getElem?_cons_succ, Option.bind_some, Act.put, List.setIfInBounds_toArray, List.set_cons_zero, List.set_cons_succ] at hK ⊢
          rw [d7] at hK ⊢
          go_simp
          exact hK (undef) _ HJ.out rfl (fun j y h => h) _ rfl
        · obtain rfl := Option.some.inj ho.symm
          have d7 : V 7 = .bool false := hdep ⟨7, .guard⟩ (by simp) rfl
          clear hdep ho hJ
          try simp only [fill, slotOf, List.size_toArray, List.length_cons, List.length_nil, Nat.reduceAdd, List.getElem?_toArray, List.getElem?_cons_zero, List.getElem?_cons_succ, Option.bind_some, Act.put, List.setIfInBounds_toArray, List.set_cons_zero, List.set_cons_succ] at hK ⊢
          rw [d7] at hK ⊢
          go_simp
          exact hK (undef) _ HJ.out rfl (fun j y h => h) _ rfl
        · obtain rfl := Option.some.inj ho.symm
          have d7 : V 7 = .bool false := hdep ⟨7, .guard⟩ (by simp) rfl
          clear hdep ho hJ
          try simp only [fill, slotOf, List.size_toArray, List.length_cons, List.length_nil, Nat.reduceAdd, List.getElem?_toArray, List.getElem?_cons_zero, List.getElem?_cons_succ, Option.bind_some, Act.put, List.setIfInBounds_toArray, List.set_cons_zero, List.set_cons_succ] at hK ⊢
          rw [d7] at hK ⊢
          go_simp
          exact hK (undef) _ HJ.out rfl (fun j y h => h) _ rfl
        · obtain rfl := Option.some.inj ho.symm
          have d7 : V 7 = .bool false := hdep ⟨7, .data⟩ (by simp) rfl
          have d16 : V 16 = undef := hdep ⟨16, .data⟩ (by simp) rfl
          have d4 : V 4 = .bool false := hdep ⟨4, .guard⟩ (by simp) rfl
          clear hdep ho hJ
          try simp only [fill, slotOf, List.size_toArray, List.length_cons, List.length_nil, Nat.reduceAdd, List.getElem?_toArray, List.getElem?_cons_zero, List.getElem?_cons_succ, Option.bind_some, Act.put, List.setIfInBounds_toArray, List.set_cons_zero, List.set_cons_succ] at hK ⊢
          rw [d7, d16, d4] at hK ⊢
          go_simp
          exact hK (.bool false) _ HJ.out rfl (fun j y h => h) _ rfl
        · obtain rfl := Option.some.inj ho.symm
          have d4 : V 4 = .bool false := hdep ⟨4, .data⟩ (by simp) rfl
          have d17 : V 17 = .bool false := hdep ⟨17, .data⟩ (by simp) rfl
          clear hdep ho hJ
          try simp only [fill, slotOf, List.size_toArray, List.length_cons, List.length_nil, Nat.reduceAdd, List.getElem?_toArray, List.getElem?_cons_zero, List.getElem?_cons_succ, Option.bind_some, Act.put, List.setIfInBounds_toArray, List.set_cons_zero, List.set_cons_succ] at hK ⊢
          rw [d4, d17] at hK ⊢
          go_simp
          exact hK (.bool false) _ HJ.out rfl (fun j y h => h) _ rfl
      · intro V w9 hJ hall
        have dL : V 18 = .bool false := hall 18 (by decide)
        have HJ9 := Lib.hid hJ
        clear hall hJ
        simp only [fill, slotOf, List.size_toArray, List.length_cons, List.length_nil, Nat.reduceAdd, List.getElem?_toArray, List.getElem?_cons_zero, List.getElem?_cons_succ, Option.bind_some, Act.put, List.setIfInBounds_toArray, List.set_cons_zero, List.set_cons_succ]
        rw [dL]
        clear dL
        have HBZ := Lib.hid (HAL.out.trans (HJ9.out.mono HAL.out.size))
        go_wp2_with fail
        go_roundw
        case rel => exact ⟨1, by omega, rfl, HBZ⟩
        case measure => simp [intOf]
    · obtain rfl : k = 1 := by omega
      go_wp2_with fail
      go_ret
      exact ⟨rfl, HB.out⟩
set_option maxRecDepth 100000 in
theorem right_zero (w : World) : Calls Tryz.prog 11 #[.agg #[.int .i64 0, .int .i64 0, .int .i64 0, .slice none 0 0, .slice none 0 0, .slice none 0 0]] w fun e w' => e = .returned (.bool true) ∧ Below w.heap.size w w' := by
  have HB := Lib.hid ((Below.refl w.heap.size w).alloc (Nat.le_refl _) (.cells #[.int .i64 0, .int .i64 0, .int .i64 0, .slice none 0 0, .slice none 0 0, .slice none 0 0] 26))
  go_enter Tryz.func11, Tryz.ntmps11
  go_wp2_with fail
  refine (within_yes (by omega) (by omega) _).mono ?_
  rintro e w1 ⟨rfl, rfl⟩
  go_wp2_with fail
  refine (within_yes (by omega) (by omega) _).mono ?_
  rintro e w1 ⟨rfl, rfl⟩
  go_wp2_with fail
  refine (within_yes (by omega) (by omega) _).mono ?_
  rintro e w1 ⟨rfl, rfl⟩
  go_wp2_with fail
  refine (rising_nilE none 0 _ _ _).mono ?_
  rintro e w1 ⟨rfl, rfl⟩
  go_wp2_with fail
  refine (rising_nilM none 0 _ _ _).mono ?_
  rintro e w1 ⟨rfl, rfl⟩
  go_wp2_with fail
  refine (rising_nilO none 0 _ _ _).mono ?_
  rintro e w1 ⟨rfl, rfl⟩
  go_wp2_with fail
  go_ret
  exact ⟨rfl, HB.out⟩

@[go_sem] theorem eql_nilM (w : World) (n c n' c' : Nat) : (binOp .eql 23 (.slice none n c) (.slice none n' c')).run Tryz.prog w = .ok (.bool true) w := Lib.run_eql_slice_nil w _ _ none n c n' c' Tryz.underlying23
set_option maxRecDepth 100000 in
theorem clone_nilM (w : World) : Calls Tryz.prog 70 #[.slice none 0 0] w fun e w' => e = .returned (.slice none 0 0) ∧ w' = w := by
  go_enter Tryz.func70, Tryz.ntmps70
  go_wp2_with fail
  go_ret
  exact ⟨rfl, rfl⟩
set_option maxRecDepth 100000 in
theorem bsf_nilM (x y : Int) (f : Value) (w : World) : Calls Tryz.prog 104 #[.slice none 0 0, .agg #[.int .i64 x, .int .i64 y], f] w fun e w' => e = .returned (.tuple #[.int .i64 0, .bool false]) ∧ Below w.heap.size w w' := by
  have HB := Lib.hid ((Below.refl w.heap.size w).alloc (Nat.le_refl _) (.cells #[.int .i64 x, .int .i64 y] 43))
  go_enter Tryz.func104, Tryz.ntmps104
  go_wp2_with fail
  refine wp_loop_rounds 1 ?_
  rw [rounds_succ]
  go_wp2_with fail
  go_region
  go_wp2_with fail
  first | go_ret2 | go_ret
  exact ⟨rfl, HB.out.drew⟩
set_option maxRecDepth 100000 in
set_option maxHeartbeats 1000000 in
theorem insert_nilM {w : World} {g c : Nat} {x y : Int} (h : VecAt MarkS w (some ⟨g, 0, none⟩) 1 c [(x, y)]) : Calls Tryz.prog 105 #[.slice none 0 0, .int .i64 0, .slice (some ⟨g, 0, none⟩) 1 c] w fun e w' => ∃ g' c', e = .returned (.slice (some ⟨g', 0, none⟩) 1 c') ∧ w.heap.size ≤ g' ∧ VecAt MarkS w' (some ⟨g', 0, none⟩) 1 c' [(x, y)] ∧ Below w.heap.size w w' := by
  obtain ⟨i0, ii, iz0, iz1, iz2⟩ := info_parts mark_info
  have hcap := h.cap
  have hcm := h.capm
  have HSRC := Lib.hid h.src
  have HO := Lib.hid (World.ownsRow_nil w w.heap.size 43 2)
  clear h
  go_enter Tryz.func105, Tryz.ntmps105
  go_wp2_with (at_builtin; refine wpList_append_own_at _ rfl (.tmp 23) (.tmp 24) 23 rfl w.heap.size 43 i0 _ 2 16 Tryz.underlying23 ii iz0 iz1 iz2 rfl (by decide) _ 0 _ rfl HO.out ⟨g, 0, none⟩ 1 c (MarkS.flat [(x, y)]) rfl rfl HSRC.out (MarkS.flat_one _) (by unfold maxLen; omega) (by omega) (Nat.le_refl _) ?_)
  intro v w1 ho hg _ _
  have hv : ∃ g' c', v = .slice (some ⟨g', 0, none⟩) 1 c' ∧ w.heap.size ≤ g' := by
    rcases ho.2 with ⟨_, h0⟩ | ⟨g', cap, cur, rfl, hb, _⟩
    · simp at h0
    · exact ⟨g', cap, rfl, hb⟩
  obtain ⟨g', c', rfl, hge⟩ := hv
  have HV := Lib.hid (show VecAt MarkS w1 (some ⟨g', 0, none⟩) 1 c' [(x, y)] from VecAt.ofOwn (S := MarkS) ho rfl (fun _ _ => trivial))
  have HB := Lib.hid (below_own (Below.refl _ _) HO.out hg (Nat.le_refl _) (Nat.le_refl _))
  have HG := Lib.hid hge
  clear ho hg hge
  go_wp2_with fail
  go_ret
  exact ⟨g', c', rfl, HG.out, HV.out, HB.out⟩
set_option maxRecDepth 100000 in
set_option maxHeartbeats 1000000 in
theorem put_nilM (x y : Int) (f : Value) (w : World) : Calls Tryz.prog 71 #[.slice none 0 0, .agg #[.int .i64 x, .int .i64 y], f] w fun e w' => ∃ g c, e = .returned (.slice (some ⟨g, 0, none⟩) 1 c) ∧ w.heap.size ≤ g ∧ VecAt MarkS w' (some ⟨g, 0, none⟩) 1 c [(x, y)] ∧ Below w.heap.size w w' := by
  obtain ⟨wa, hwa⟩ : ∃ wa, wa = w.alloc (.cells #[.int .i64 x, .int .i64 y] 43) := ⟨_, rfl⟩
  have ba : Below w.heap.size w wa := by rw [hwa]; exact (Below.refl _ _).alloc (Nat.le_refl _) _
  have ga : wa.heap[w.heap.size]? = some (.cells #[.int .i64 x, .int .i64 y] 43 (0, 0)) := by rw [hwa]; exact heap_alloc_new _ _
  have HBA := Lib.hid ba
  have HGA := Lib.hid ga
  have HWA := Lib.hid hwa
  have HBS := Lib.hid (bsf_nilM x y f wa)
  clear hwa ba ga
  go_enter Tryz.func71, Tryz.ntmps71
  go_wp2_with fail
  rw [← HWA.out]
  refine HBS.out.mono ?_
  rintro e w1 ⟨rfl, hb1⟩
  have HB1 := Lib.hid (HBA.out.trans (hb1.mono HBA.out.size))
  have hg1 := (hb1.block w.heap.size (Array.getElem?_eq_some_iff.1 HGA.out).1).trans HGA.out
  have c0 : w1.cell? ⟨w.heap.size, 0, none⟩ = some (.int .i64 x) := cell_blk hg1 rfl
  have c1 : w1.cell? ⟨w.heap.size, 1, none⟩ = some (.int .i64 y) := cell_blk hg1 rfl
  obtain ⟨w2, hw2⟩ : ∃ w2, w2 = w1.alloc (.cells #[.int .i64 x, .int .i64 y] 43) := ⟨_, rfl⟩
  have HB2 := Lib.hid (show Below w.heap.size w w2 from by rw [hw2]; exact HB1.out.alloc HB1.out.size _)
  have HV2 := Lib.hid (show VecAt MarkS w2 (some ⟨w1.heap.size, 0, none⟩) 1 1 [(x, y)] from by
    rw [hw2]
    exact VecAt.ofOwn (S := MarkS) (World.ownsRow_lit (base := w1.heap.size) (e := 43) (size := 2) w1 #[.int .i64 x, .int .i64 y] 1 (Nat.le_refl _) (by unfold maxLen; omega) rfl) rfl (fun _ _ => trivial))
  have HW2 := Lib.hid hw2
  have HIN := Lib.hid (insert_nilM HV2.out)
  clear hb1 hg1 hw2
  go_wp2_with fail
  rw [← HW2.out]
  refine HIN.out.mono ?_
  rintro e w3 ⟨g, c, rfl, hge, hv, hb⟩
  have HB3 := Lib.hid (HB2.out.trans (hb.mono HB2.out.size))
  have HV := Lib.hid hv
  have HG := Lib.hid (Nat.le_trans HB2.out.size hge)
  clear hge hv hb
  go_wp2_with fail
  go_ret
  exact ⟨g, c, rfl, HG.out, HV.out, HB3.out⟩

@[go_sem] theorem eql_nilO (w : World) (n c n' c' : Nat) : (binOp .eql 24 (.slice none n c) (.slice none n' c')).run Tryz.prog w = .ok (.bool true) w := Lib.run_eql_slice_nil w _ _ none n c n' c' Tryz.underlying24
set_option maxRecDepth 100000 in
theorem clone_nilO (w : World) : Calls Tryz.prog 73 #[.slice none 0 0] w fun e w' => e = .returned (.slice none 0 0) ∧ w' = w := by
  go_enter Tryz.func73, Tryz.ntmps73
  go_wp2_with fail
  go_ret
  exact ⟨rfl, rfl⟩
set_option maxRecDepth 100000 in
theorem bsf_nilO (x y z : Int) (f : Value) (w : World) : Calls Tryz.prog 106 #[.slice none 0 0, .agg #[.int .i64 x, .int .i64 y, .int .i64 z], f] w fun e w' => e = .returned (.tuple #[.int .i64 0, .bool false]) ∧ Below w.heap.size w w' := by
  have HB := Lib.hid ((Below.refl w.heap.size w).alloc (Nat.le_refl _) (.cells #[.int .i64 x, .int .i64 y, .int .i64 z] 45))
  go_enter Tryz.func106, Tryz.ntmps106
  go_wp2_with fail
  refine wp_loop_rounds 1 ?_
  rw [rounds_succ]
  go_wp2_with fail
  go_region
  go_wp2_with fail
  first | go_ret2 | go_ret
  exact ⟨rfl, HB.out.drew⟩
set_option maxRecDepth 100000 in
set_option maxHeartbeats 1000000 in
theorem insert_nilO {w : World} {g c : Nat} {x y z : Int} (h : VecAt OwnS w (some ⟨g, 0, none⟩) 1 c [(x, y, z)]) : Calls Tryz.prog 107 #[.slice none 0 0, .int .i64 0, .slice (some ⟨g, 0, none⟩) 1 c] w fun e w' => ∃ g' c', e = .returned (.slice (some ⟨g', 0, none⟩) 1 c') ∧ w.heap.size ≤ g' ∧ VecAt OwnS w' (some ⟨g', 0, none⟩) 1 c' [(x, y, z)] ∧ Below w.heap.size w w' := by
  obtain ⟨i0, ii, iz0, iz1, iz2⟩ := info_parts own_info
  have hcap := h.cap
  have hcm := h.capm
  have HSRC := Lib.hid h.src
  have HO := Lib.hid (World.ownsRow_nil w w.heap.size 45 3)
  clear h
  go_enter Tryz.func107, Tryz.ntmps107
  go_wp2_with (at_builtin; refine wpList_append_own_at _ rfl (.tmp 23) (.tmp 24) 24 rfl w.heap.size 45 i0 _ 3 24 Tryz.underlying24 ii iz0 iz1 iz2 rfl (by decide) _ 0 _ rfl HO.out ⟨g, 0, none⟩ 1 c (OwnS.flat [(x, y, z)]) rfl rfl HSRC.out (OwnS.flat_one _) (by unfold maxLen; omega) (by omega) (Nat.le_refl _) ?_)
  intro v w1 ho hg _ _
  have hv : ∃ g' c', v = .slice (some ⟨g', 0, none⟩) 1 c' ∧ w.heap.size ≤ g' := by
    rcases ho.2 with ⟨_, h0⟩ | ⟨g', cap, cur, rfl, hb, _⟩
    · simp at h0
    · exact ⟨g', cap, rfl, hb⟩
  obtain ⟨g', c', rfl, hge⟩ := hv
  have HV := Lib.hid (show VecAt OwnS w1 (some ⟨g', 0, none⟩) 1 c' [(x, y, z)] from VecAt.ofOwn (S := OwnS) ho rfl (fun _ _ => trivial))
  have HB := Lib.hid (below_own (Below.refl _ _) HO.out hg (Nat.le_refl _) (Nat.le_refl _))
  have HG := Lib.hid hge
  clear ho hg hge
  go_wp2_with fail
  go_ret
  exact ⟨g', c', rfl, HG.out, HV.out, HB.out⟩
set_option maxRecDepth 100000 in
set_option maxHeartbeats 1000000 in
theorem put_nilO (x y z : Int) (f : Value) (w : World) : Calls Tryz.prog 72 #[.slice none 0 0, .agg #[.int .i64 x, .int .i64 y, .int .i64 z], f] w fun e w' => ∃ g c, e = .returned (.slice (some ⟨g, 0, none⟩) 1 c) ∧ w.heap.size ≤ g ∧ VecAt OwnS w' (some ⟨g, 0, none⟩) 1 c [(x, y, z)] ∧ Below w.heap.size w w' := by
  obtain ⟨wa, hwa⟩ : ∃ wa, wa = w.alloc (.cells #[.int .i64 x, .int .i64 y, .int .i64 z] 45) := ⟨_, rfl⟩
  have ba : Below w.heap.size w wa := by rw [hwa]; exact (Below.refl _ _).alloc (Nat.le_refl _) _
  have ga : wa.heap[w.heap.size]? = some (.cells #[.int .i64 x, .int .i64 y, .int .i64 z] 45 (0, 0)) := by rw [hwa]; exact heap_alloc_new _ _
  have HBA := Lib.hid ba
  have HGA := Lib.hid ga
  have HWA := Lib.hid hwa
  have HBS := Lib.hid (bsf_nilO x y z f wa)
  clear hwa ba ga
  go_enter Tryz.func72, Tryz.ntmps72
  go_wp2_with fail
  rw [← HWA.out]
  refine HBS.out.mono ?_
  rintro e w1 ⟨rfl, hb1⟩
  have HB1 := Lib.hid (HBA.out.trans (hb1.mono HBA.out.size))
  have hg1 := (hb1.block w.heap.size (Array.getElem?_eq_some_iff.1 HGA.out).1).trans HGA.out
  have c0 : w1.cell? ⟨w.heap.size, 0, none⟩ = some (.int .i64 x) := cell_blk hg1 rfl
  have c1 : w1.cell? ⟨w.heap.size, 1, none⟩ = some (.int .i64 y) := cell_blk hg1 rfl
  have c2 : w1.cell? ⟨w.heap.size, 2, none⟩ = some (.int .i64 z) := cell_blk hg1 rfl
  obtain ⟨w2, hw2⟩ : ∃ w2, w2 = w1.alloc (.cells #[.int .i64 x, .int .i64 y, .int .i64 z] 45) := ⟨_, rfl⟩
  have HB2 := Lib.hid (show Below w.heap.size w w2 from by rw [hw2]; exact HB1.out.alloc HB1.out.size _)
  have HV2 := Lib.hid (show VecAt OwnS w2 (some ⟨w1.heap.size, 0, none⟩) 1 1 [(x, y, z)] from by
    rw [hw2]
    exact VecAt.ofOwn (S := OwnS) (World.ownsRow_lit (base := w1.heap.size) (e := 45) (size := 3) w1 #[.int .i64 x, .int .i64 y, .int .i64 z] 1 (Nat.le_refl _) (by unfold maxLen; omega) rfl) rfl (fun _ _ => trivial))
  have HW2 := Lib.hid hw2
  have HIN := Lib.hid (insert_nilO HV2.out)
  clear hb1 hg1 hw2
  go_wp2_with fail
  rw [← HW2.out]
  refine HIN.out.mono ?_
  rintro e w3 ⟨g, c, rfl, hge, hv, hb⟩
  have HB3 := Lib.hid (HB2.out.trans (hb.mono HB2.out.size))
  have HV := Lib.hid hv
  have HG := Lib.hid (Nat.le_trans HB2.out.size hge)
  clear hge hv hb
  go_wp2_with fail
  go_ret
  exact ⟨g, c, rfl, HG.out, HV.out, HB3.out⟩

end Go.Proofs.YtbdgcfimbblncaaGreatDoor
end PkMB2_3
section PkMB2_4
/- Manifests: what layer 13's fixed edit meets on the manifest of nothing, walked. Written by genmfe.py. -/
namespace Go.Proofs.YtbdgcfimbblncaaGreatDoor
open Go.RowKit LabPlain
set_option linter.unusedVariables false

set_option maxRecDepth 100000 in
set_option maxHeartbeats 4000000 in
theorem rightEdit_yes {w : World} {g c : Nat} (h : VecAt MarkS w (some ⟨g, 0, none⟩) 1 c [(1, 5)]) :
    Calls Tryz.prog 63 #[.agg #[.slice none 0 0, .slice none 0 0, .slice (some ⟨g, 0, none⟩) 1 c, .int .i64 0, .int .i64 0, .int .i64 1, .int .i64 1, .int .i64 1]] w fun e w' => e = .returned (.bool true) ∧ Below w.heap.size w w' := by
  obtain ⟨wa, hwa⟩ : ∃ wa, wa = w.alloc (.cells #[.slice none 0 0, .slice none 0 0, .slice (some ⟨g, 0, none⟩) 1 c, .int .i64 0, .int .i64 0, .int .i64 1, .int .i64 1, .int .i64 1] 48) := ⟨_, rfl⟩
  have ba : Below w.heap.size w wa := by rw [hwa]; exact (Below.refl _ _).alloc (Nat.le_refl _) _
  have ga : wa.heap[w.heap.size]? = some (.cells #[.slice none 0 0, .slice none 0 0, .slice (some ⟨g, 0, none⟩) 1 c, .int .i64 0, .int .i64 0, .int .i64 1, .int .i64 1, .int .i64 1] 48 (0, 0)) := by rw [hwa]; exact heap_alloc_new _ _
  have sa : wa.heap.size = w.heap.size + 1 := by rw [hwa]; exact Array.size_push _
  obtain ⟨wb, hwb⟩ : ∃ wb, wb = wa.alloc (.cells #[.slice none 0 0] 22) := ⟨_, rfl⟩
  have bb : Below w.heap.size w wb := by rw [hwb]; exact ba.alloc ba.size _
  have cb : wb.cell? ⟨wa.heap.size, 0, none⟩ = some (.slice none 0 0) := by rw [hwb]; exact cell_blk (heap_alloc_new _ _) rfl
  have sb : wb.heap.size = wa.heap.size + 1 := by rw [hwb]; exact Array.size_push _
  have HS1 := Lib.hid (sorted0E (w := wb) (gf := 121) (lb := #[.pointer (some ⟨wa.heap.size, 0, none⟩)]) (fun _ _ => rfl) (fun m _ => sseqE m wa.heap.size none 0 wb (by omega) cb wb.heap.size) (.func (.func 38) #[] #[]))
  have HGA := Lib.hid ga
  have HWA := Lib.hid hwa
  have HWB := Lib.hid hwb
  have HBB := Lib.hid bb
  have HSA := Lib.hid sa
  have HSB := Lib.hid sb
  have HG2 := Lib.hid (show wb.heap[w.heap.size]? = some (.cells #[.slice none 0 0, .slice none 0 0, .slice (some ⟨g, 0, none⟩) 1 c, .int .i64 0, .int .i64 0, .int .i64 1, .int .i64 1, .int .i64 1] 48 (0, 0)) from by rw [hwb, hao9 _ _ _ (by omega)]; exact ga)
  have HH := Lib.hid h
  have a0 : wa.cell? ⟨w.heap.size, 0, none⟩ = some (.slice none 0 0) := cell_blk ga rfl
  have a1 : wa.cell? ⟨w.heap.size, 1, none⟩ = some (.slice none 0 0) := cell_blk ga rfl
  have a2 : wa.cell? ⟨w.heap.size, 2, none⟩ = some (.slice (some ⟨g, 0, none⟩) 1 c) := cell_blk ga rfl
  have a3 : wa.cell? ⟨w.heap.size, 3, none⟩ = some (.int .i64 0) := cell_blk ga rfl
  have a4 : wa.cell? ⟨w.heap.size, 4, none⟩ = some (.int .i64 0) := cell_blk ga rfl
  have a5 : wa.cell? ⟨w.heap.size, 5, none⟩ = some (.int .i64 1) := cell_blk ga rfl
  have a6 : wa.cell? ⟨w.heap.size, 6, none⟩ = some (.int .i64 1) := cell_blk ga rfl
  have a7 : wa.cell? ⟨w.heap.size, 7, none⟩ = some (.int .i64 1) := cell_blk ga rfl
  clear hwa ba ga sa hwb bb cb sb h
  go_enter Tryz.func63, Tryz.ntmps63
  go_wp2_with fail
  rw [← HWA.out]
  refine (svaluesE none 0 0).mono ?_
  rintro e w1 ⟨rfl, rfl⟩
  go_wp2_with fail
  rw [← HWB.out]
  refine HS1.out.mono ?_
  rintro e w2 ⟨⟨qa2, qc2, rfl⟩, hb2⟩
  have HB2 := Lib.hid (HBB.out.trans (hb2.mono HBB.out.size))
  have HG3 := Lib.hid ((hb2.block w.heap.size (by have := HSA.out; have := HSB.out; omega)).trans HG2.out)
  clear a0 a1 a2 a3 a4 a5 a6 a7
  have b0 : w2.cell? ⟨w.heap.size, 0, none⟩ = some (.slice none 0 0) := cell_blk HG3.out rfl
  have b1 : w2.cell? ⟨w.heap.size, 1, none⟩ = some (.slice none 0 0) := cell_blk HG3.out rfl
  have b2 : w2.cell? ⟨w.heap.size, 2, none⟩ = some (.slice (some ⟨g, 0, none⟩) 1 c) := cell_blk HG3.out rfl
  have b3 : w2.cell? ⟨w.heap.size, 3, none⟩ = some (.int .i64 0) := cell_blk HG3.out rfl
  have b4 : w2.cell? ⟨w.heap.size, 4, none⟩ = some (.int .i64 0) := cell_blk HG3.out rfl
  have b5 : w2.cell? ⟨w.heap.size, 5, none⟩ = some (.int .i64 1) := cell_blk HG3.out rfl
  have b6 : w2.cell? ⟨w.heap.size, 6, none⟩ = some (.int .i64 1) := cell_blk HG3.out rfl
  have b7 : w2.cell? ⟨w.heap.size, 7, none⟩ = some (.int .i64 1) := cell_blk HG3.out rfl
  obtain ⟨wc, hwc⟩ : ∃ wc, wc = w2.alloc (.cells #[.slice none 0 0] 46) := ⟨_, rfl⟩
  have bc : Below w.heap.size w wc := by rw [hwc]; exact HB2.out.alloc HB2.out.size _
  have cc : wc.cell? ⟨w2.heap.size, 0, none⟩ = some (.slice none 0 0) := by rw [hwc]; exact cell_blk (heap_alloc_new _ _) rfl
  have sc : wc.heap.size = w2.heap.size + 1 := by rw [hwc]; exact Array.size_push _
  have HS2 := Lib.hid (sorted0S (w := wc) (gf := 124) (lb := #[.pointer (some ⟨w2.heap.size, 0, none⟩)]) (fun _ _ => rfl) (fun m _ => sseqS m w2.heap.size none 0 wc (by omega) cc wc.heap.size))
  have HL2 := Lib.hid (show w.heap.size < w2.heap.size from by have := HSA.out; have := HSB.out; have := hb2.size; omega)
  have HG4 := Lib.hid (show wc.heap[w.heap.size]? = some (.cells #[.slice none 0 0, .slice none 0 0, .slice (some ⟨g, 0, none⟩) 1 c, .int .i64 0, .int .i64 0, .int .i64 1, .int .i64 1, .int .i64 1] 48 (0, 0)) from by rw [hwc, hao9 _ _ _ HL2.out]; exact HG3.out)
  have HWC := Lib.hid hwc
  have HBC := Lib.hid bc
  have HSC := Lib.hid sc
  clear hwc bc cc sc hb2
  go_wp2_with fail
  refine (svaluesS none 0 0).mono ?_
  rintro e w3 ⟨rfl, rfl⟩
  go_wp2_with fail
  rw [← HWC.out]
  refine HS2.out.mono ?_
  rintro e w4 ⟨⟨qa4, qc4, rfl⟩, hb4⟩
  have HB4 := Lib.hid (HBC.out.trans (hb4.mono HBC.out.size))
  have HG5 := Lib.hid ((hb4.block w.heap.size (by have := HSC.out; have := HL2.out; omega)).trans HG4.out)
  clear b0 b1 b2 b3 b4 b5 b6 b7
  have m0 : w4.cell? ⟨w.heap.size, 0, none⟩ = some (.slice none 0 0) := cell_blk HG5.out rfl
  have m1 : w4.cell? ⟨w.heap.size, 1, none⟩ = some (.slice none 0 0) := cell_blk HG5.out rfl
  have m2 : w4.cell? ⟨w.heap.size, 2, none⟩ = some (.slice (some ⟨g, 0, none⟩) 1 c) := cell_blk HG5.out rfl
  have m3 : w4.cell? ⟨w.heap.size, 3, none⟩ = some (.int .i64 0) := cell_blk HG5.out rfl
  have m4 : w4.cell? ⟨w.heap.size, 4, none⟩ = some (.int .i64 0) := cell_blk HG5.out rfl
  have m5 : w4.cell? ⟨w.heap.size, 5, none⟩ = some (.int .i64 1) := cell_blk HG5.out rfl
  have m6 : w4.cell? ⟨w.heap.size, 6, none⟩ = some (.int .i64 1) := cell_blk HG5.out rfl
  have m7 : w4.cell? ⟨w.heap.size, 7, none⟩ = some (.int .i64 1) := cell_blk HG5.out rfl
  clear hb4
  have HR1 := Lib.hid (fun cf => rising_one (HH.out.kept HB4.out) (x := 1) (y := 5) ⟨by omega, by omega⟩ ⟨by omega, by omega⟩ cf)
  go_wp2_with fail
  refine (rising_nilE qa2 qc2 _ _ _).mono ?_
  rintro e w5 ⟨rfl, rfl⟩
  go_wp2_with fail
  refine (rising_nilS qa4 qc4 _ _ _).mono ?_
  rintro e w5 ⟨rfl, rfl⟩
  go_wp2_with fail
  refine (HR1.out _).mono ?_
  rintro e w6 ⟨rfl, hb6⟩
  have HB6 := Lib.hid (HB4.out.trans (hb6.mono HB4.out.size))
  have HG6 := Lib.hid ((hb6.block w.heap.size (Array.getElem?_eq_some_iff.1 HG5.out).1).trans HG5.out)
  clear hb6
  clear m0 m1 m2 m3 m4 m5 m6 m7
  have d0 : w6.cell? ⟨w.heap.size, 0, none⟩ = some (.slice none 0 0) := cell_blk HG6.out rfl
  have d1 : w6.cell? ⟨w.heap.size, 1, none⟩ = some (.slice none 0 0) := cell_blk HG6.out rfl
  have d2 : w6.cell? ⟨w.heap.size, 2, none⟩ = some (.slice (some ⟨g, 0, none⟩) 1 c) := cell_blk HG6.out rfl
  have d3 : w6.cell? ⟨w.heap.size, 3, none⟩ = some (.int .i64 0) := cell_blk HG6.out rfl
  have d4 : w6.cell? ⟨w.heap.size, 4, none⟩ = some (.int .i64 0) := cell_blk HG6.out rfl
  have d5 : w6.cell? ⟨w.heap.size, 5, none⟩ = some (.int .i64 1) := cell_blk HG6.out rfl
  have d6 : w6.cell? ⟨w.heap.size, 6, none⟩ = some (.int .i64 1) := cell_blk HG6.out rfl
  have d7 : w6.cell? ⟨w.heap.size, 7, none⟩ = some (.int .i64 1) := cell_blk HG6.out rfl
  go_wp2_with fail
  refine (within_yes (by omega) (by omega) _).mono ?_
  rintro e w7 ⟨rfl, rfl⟩
  go_wp2_with fail
  refine (within_yes (by omega) (by omega) _).mono ?_
  rintro e w7 ⟨rfl, rfl⟩
  go_wp2_with fail
  refine (rightOwner_yes ⟨by omega, by omega⟩ ⟨by omega, by omega⟩ ⟨by omega, by omega⟩ _).mono ?_
  rintro e w7 ⟨rfl, hb7⟩
  have HB7 := Lib.hid (HB6.out.trans (hb7.mono HB6.out.size))
  clear hb7
  go_wp2_with fail
  go_ret
  exact ⟨rfl, HB7.out⟩

end Go.Proofs.YtbdgcfimbblncaaGreatDoor
end PkMB2_4
section PkMB2_5
/- Manifests: outdated, remaining, Mark of layer 13, walked. Written by genmfe.py. -/
namespace Go.Proofs.YtbdgcfimbblncaaGreatDoor
open Go.RowKit LabPlain
set_option linter.unusedVariables false

set_option maxRecDepth 100000 in
set_option maxHeartbeats 4000000 in
theorem lookO_nil (x y z : Int) (f : Value) (w : World) :
    Calls Tryz.prog 100 #[.slice none 0 0, .agg #[.int .i64 x, .int .i64 y, .int .i64 z], f] w fun e w' => e = .returned (.tuple #[.agg #[.int .i64 0, .int .i64 0, .int .i64 0], .bool false]) ∧ Below w.heap.size w w' := by
  obtain ⟨wa, hwa⟩ : ∃ wa, wa = w.alloc (.cells #[.int .i64 x, .int .i64 y, .int .i64 z] 45) := ⟨_, rfl⟩
  obtain ⟨wb, hwb⟩ : ∃ wb, wb = wa.alloc (.cells #[.int .i64 0, .int .i64 0, .int .i64 0] 45) := ⟨_, rfl⟩
  have sa : wa.heap.size = w.heap.size + 1 := by rw [hwa]; exact Array.size_push _
  have sb : wb.heap.size = w.heap.size + 2 := by rw [hwb]; show (wa.heap.push _).size = _; rw [Array.size_push, sa]
  have ba : Below w.heap.size w wa := by rw [hwa]; exact (Below.refl _ _).alloc (Nat.le_refl _) _
  have bb : Below w.heap.size w wb := by rw [hwb]; exact ba.alloc ba.size _
  have gb : wb.heap[w.heap.size + 1]? = some (.cells #[.int .i64 0, .int .i64 0, .int .i64 0] 45 (0, 0)) := by rw [hwb, ← sa]; exact heap_alloc_new _ _
  have HBB := Lib.hid bb
  have HGB := Lib.hid gb
  have HSB := Lib.hid sb
  have hl5 : w.heap.size + 1 < wb.heap.size := by omega
  have HWB := Lib.hid (show (w.alloc (.cells #[.int .i64 x, .int .i64 y, .int .i64 z] 45)).alloc (.cells #[.int .i64 0, .int .i64 0, .int .i64 0] 45) = wb from by rw [hwb, hwa])
  have r0 : wb.cell? ⟨w.heap.size + 1, 0, none⟩ = some (.int .i64 0) := cell_blk gb rfl
  have r1 : wb.cell? ⟨w.heap.size + 1, 1, none⟩ = some (.int .i64 0) := cell_blk gb rfl
  have r2 : wb.cell? ⟨w.heap.size + 1, 2, none⟩ = some (.int .i64 0) := cell_blk gb rfl
  have f0 : wb.frozen? ⟨w.heap.size + 1, 0, none⟩ = false := fro_blk gb 0
  have f1 : wb.frozen? ⟨w.heap.size + 1, 1, none⟩ = false := fro_blk gb 1
  have f2 : wb.frozen? ⟨w.heap.size + 1, 2, none⟩ = false := fro_blk gb 2
  clear hwb hwa sa ba bb gb
  go_enter Tryz.func100, Tryz.ntmps100
  go_wp2_with fail
  rw [HWB.out]
  refine wp_loop_rounds 1 ?_
  rw [rounds_succ]
  go_wp2_with fail
  refine bodyPost_ret (ret_cell_tmp rfl _ _ (w.heap.size + 1) 45 #[.int .i64 0, .int .i64 0, .int .i64 0] _ _ rfl ((hao9 _ _ _ (by simpa using hl5)).trans (setO HGB.out 0 0 0)) Tryz.underlying45 rfl (by kernel_rfl)) rfl ?_
  exact ⟨rfl, (belowO HBB.out (by omega) 0 0 0).alloc (by simp; have := HSB.out; omega) _⟩

set_option maxRecDepth 100000 in
set_option maxHeartbeats 4000000 in
theorem mark_any {w : World} {s d hz : Int} {ea ma oa : Option Addr} {en ec mn mc on oc : Nat} {l : List (Int × Int)} (h : VecAt MarkS w ma mn mc l) (x : Int) :
    Calls Tryz.prog 19 #[.agg #[.int .i64 s, .int .i64 d, .int .i64 hz, .slice ea en ec, .slice ma mn mc, .slice oa on oc], .int .i64 x] w fun e w' => e = .returned (.int .i64 ((l.find? fun y => decide (y.1 = x)).getD (0, 0)).2) ∧ Below w.heap.size w w' := by
  obtain ⟨wa, hwa⟩ : ∃ wa, wa = w.alloc (.cells #[.int .i64 s, .int .i64 d, .int .i64 hz, .slice ea en ec, .slice ma mn mc, .slice oa on oc] 26) := ⟨_, rfl⟩
  have ba : Below w.heap.size w wa := by rw [hwa]; exact (Below.refl _ _).alloc (Nat.le_refl _) _
  have ga : wa.heap[w.heap.size]? = some (.cells #[.int .i64 s, .int .i64 d, .int .i64 hz, .slice ea en ec, .slice ma mn mc, .slice oa on oc] 26 (0, 0)) := by rw [hwa]; exact heap_alloc_new _ _
  have HLK := Lib.hid (lookM_any (h.kept ba) x 0)
  have HBA := Lib.hid ba
  have HWA := Lib.hid hwa
  have c4 : wa.cell? ⟨w.heap.size, 4, none⟩ = some (.slice ma mn mc) := cell_blk ga rfl
  clear hwa ba ga h
  go_enter Tryz.func19, Tryz.ntmps19
  go_wp2_with fail
  rw [← HWA.out]
  refine HLK.out.mono ?_
  rintro e w1 ⟨hl, hb⟩
  obtain ⟨r, hr⟩ : ∃ r, r = (l.find? fun y => decide (y.1 = x)).getD (0, 0) := ⟨_, rfl⟩
  obtain ⟨fd, hfd⟩ : ∃ fd, fd = (l.find? fun y => decide (y.1 = x)).isSome := ⟨_, rfl⟩
  obtain rfl : e = .returned (.tuple #[.agg #[.int .i64 r.1, .int .i64 r.2], .bool fd]) := by rw [hr, hfd]; exact hl
  have HR := Lib.hid hr
  have HB := Lib.hid (HBA.out.trans (hb.mono HBA.out.size))
  clear hb hr hfd hl
  obtain ⟨r1, r2⟩ := r
  go_wp2_with fail
  go_ret
  exact ⟨by rw [← HR.out]; rfl, HB.out.alloc HB.out.size _⟩

set_option maxRecDepth 100000 in
set_option maxHeartbeats 4000000 in
theorem outdated_no {w : World} {g c : Nat} (h : VecAt MarkS w (some ⟨g, 0, none⟩) 1 c [(1, 5)]) :
    Calls Tryz.prog 64 #[.agg #[.int .i64 0, .int .i64 0, .int .i64 0, .slice none 0 0, .slice none 0 0, .slice none 0 0], .agg #[.slice none 0 0, .slice none 0 0, .slice (some ⟨g, 0, none⟩) 1 c, .int .i64 0, .int .i64 0, .int .i64 1, .int .i64 1, .int .i64 1]] w fun e w' => e = .returned (.int .i64 0) ∧ Below w.heap.size w w' := by
  have hcap := h.cap
  have hcm := h.capm
  obtain ⟨wa, hwa⟩ : ∃ wa, wa = w.alloc (.cells #[.int .i64 0, .int .i64 0, .int .i64 0, .slice none 0 0, .slice none 0 0, .slice none 0 0] 26) := ⟨_, rfl⟩
  obtain ⟨wb, hwb⟩ : ∃ wb, wb = wa.alloc (.cells #[.slice none 0 0, .slice none 0 0, .slice (some ⟨g, 0, none⟩) 1 c, .int .i64 0, .int .i64 0, .int .i64 1, .int .i64 1, .int .i64 1] 48) := ⟨_, rfl⟩
  have sa : wa.heap.size = w.heap.size + 1 := by rw [hwa]; exact Array.size_push _
  have sb : wb.heap.size = w.heap.size + 2 := by rw [hwb]; show (wa.heap.push _).size = _; rw [Array.size_push, sa]
  have ba : Below w.heap.size w wa := by rw [hwa]; exact (Below.refl _ _).alloc (Nat.le_refl _) _
  have bb : Below w.heap.size w wb := by rw [hwb]; exact ba.alloc ba.size _
  have gb : wb.heap[w.heap.size + 1]? = some (.cells #[.slice none 0 0, .slice none 0 0, .slice (some ⟨g, 0, none⟩) 1 c, .int .i64 0, .int .i64 0, .int .i64 1, .int .i64 1, .int .i64 1] 48 (0, 0)) := by rw [hwb, ← sa]; exact heap_alloc_new _ _
  have ga : wb.heap[w.heap.size]? = some (.cells #[.int .i64 0, .int .i64 0, .int .i64 0, .slice none 0 0, .slice none 0 0, .slice none 0 0] 26 (0, 0)) := by rw [hwb, hao9 _ _ _ (by omega), hwa]; exact heap_alloc_new _ _
  have HBB := Lib.hid bb
  have HGA := Lib.hid ga
  have HGB := Lib.hid gb
  have HSB := Lib.hid sb
  have HH := Lib.hid h
  have HWB := Lib.hid (show (w.alloc (.cells #[.int .i64 0, .int .i64 0, .int .i64 0, .slice none 0 0, .slice none 0 0, .slice none 0 0] 26)).alloc (.cells #[.slice none 0 0, .slice none 0 0, .slice (some ⟨g, 0, none⟩) 1 c, .int .i64 0, .int .i64 0, .int .i64 1, .int .i64 1, .int .i64 1] 48) = wb from by rw [hwb, hwa])
  have HLK := Lib.hid (lookO_nil 1 1 1 (.func (.func 43) #[] #[]) wb)
  have a0 : wb.cell? ⟨w.heap.size, 0, none⟩ = some (.int .i64 0) := cell_blk ga rfl
  have a1 : wb.cell? ⟨w.heap.size, 1, none⟩ = some (.int .i64 0) := cell_blk ga rfl
  have a2 : wb.cell? ⟨w.heap.size, 2, none⟩ = some (.int .i64 0) := cell_blk ga rfl
  have a3 : wb.cell? ⟨w.heap.size, 3, none⟩ = some (.slice none 0 0) := cell_blk ga rfl
  have a4 : wb.cell? ⟨w.heap.size, 4, none⟩ = some (.slice none 0 0) := cell_blk ga rfl
  have a5 : wb.cell? ⟨w.heap.size, 5, none⟩ = some (.slice none 0 0) := cell_blk ga rfl
  have b0 : wb.cell? ⟨w.heap.size + 1, 0, none⟩ = some (.slice none 0 0) := cell_blk gb rfl
  have b1 : wb.cell? ⟨w.heap.size + 1, 1, none⟩ = some (.slice none 0 0) := cell_blk gb rfl
  have b2 : wb.cell? ⟨w.heap.size + 1, 2, none⟩ = some (.slice (some ⟨g, 0, none⟩) 1 c) := cell_blk gb rfl
  have b3 : wb.cell? ⟨w.heap.size + 1, 3, none⟩ = some (.int .i64 0) := cell_blk gb rfl
  have b4 : wb.cell? ⟨w.heap.size + 1, 4, none⟩ = some (.int .i64 0) := cell_blk gb rfl
  have b5 : wb.cell? ⟨w.heap.size + 1, 5, none⟩ = some (.int .i64 1) := cell_blk gb rfl
  have b6 : wb.cell? ⟨w.heap.size + 1, 6, none⟩ = some (.int .i64 1) := cell_blk gb rfl
  have b7 : wb.cell? ⟨w.heap.size + 1, 7, none⟩ = some (.int .i64 1) := cell_blk gb rfl
  clear hwb hwa sa sb ba bb gb ga h
  go_enter Tryz.func64, Tryz.ntmps64
  go_wp2_with fail
  rw [HWB.out]
  go_wp2_with fail
  refine HLK.out.mono ?_
  rintro e w1 ⟨rfl, hb1⟩
  obtain ⟨w2, hw2⟩ : ∃ w2, w2 = w1.alloc (.cells #[.int .i64 0, .int .i64 0, .int .i64 0] 45) := ⟨_, rfl⟩
  have hb2 : Below wb.heap.size wb w2 := by rw [hw2]; exact hb1.alloc hb1.size _
  have HB2 := Lib.hid (HBB.out.trans (hb2.mono HBB.out.size))
  have HBK := Lib.hid hb2
  have HW2 := Lib.hid hw2
  have HGA2 := Lib.hid ((hb2.block w.heap.size (by have := HSB.out; omega)).trans HGA.out)
  have HGB2 := Lib.hid ((hb2.block (w.heap.size + 1) (by have := HSB.out; omega)).trans HGB.out)
  have hg1 := (hb1.block (w.heap.size + 1) (by have := HSB.out; omega)).trans HGB.out
  have hl1 : w.heap.size + 1 < w1.heap.size := (Array.getElem?_eq_some_iff.1 hg1).1
  have e0 : w1.cell? ⟨w.heap.size + 1, 0, none⟩ = some (.slice none 0 0) := cell_blk hg1 rfl
  have e1 : w1.cell? ⟨w.heap.size + 1, 1, none⟩ = some (.slice none 0 0) := cell_blk hg1 rfl
  have e2 : w1.cell? ⟨w.heap.size + 1, 2, none⟩ = some (.slice (some ⟨g, 0, none⟩) 1 c) := cell_blk hg1 rfl
  have e3 : w1.cell? ⟨w.heap.size + 1, 3, none⟩ = some (.int .i64 0) := cell_blk hg1 rfl
  have e4 : w1.cell? ⟨w.heap.size + 1, 4, none⟩ = some (.int .i64 0) := cell_blk hg1 rfl
  have e5 : w1.cell? ⟨w.heap.size + 1, 5, none⟩ = some (.int .i64 1) := cell_blk hg1 rfl
  have e6 : w1.cell? ⟨w.heap.size + 1, 6, none⟩ = some (.int .i64 1) := cell_blk hg1 rfl
  have e7 : w1.cell? ⟨w.heap.size + 1, 7, none⟩ = some (.int .i64 1) := cell_blk hg1 rfl
  clear hb1 hb2 hw2 hg1
  go_wp2_with fail
  rw [← HW2.out]
  go_loopw [8, 45] (fun _ s45 wr => ∃ k : Nat, k ≤ 1 ∧ s45 = .int .i64 (k : Int) ∧ Hid (Below w2.heap.size w2 wr)) (fun _ s45 _ => 1 - (intOf s45).toNat)
  case atStart => exact ⟨0, by omega, rfl, Lib.hid (Below.refl _ _)⟩
  case round =>
    obtain ⟨k, hk, rfl, HB⟩ := hrel
    rename World => wr
    by_cases hkn : k = 0
    · subst hkn
      obtain ⟨sb, so, hsb, hsl, _, hsc9⟩ := ((HH.out.kept HB2.out).kept HB.out).get (show 0 < 1 by omega)
      obtain ⟨rfl, rfl, _⟩ := hsb
      have d0 : wr.cell? ⟨g, 0, none⟩ = some (.int .i64 1) := by simpa using hsc9 0 _ rfl
      have d1 : wr.cell? ⟨g, 0 + 1, none⟩ = some (.int .i64 5) := by simpa using hsc9 1 _ rfl
      have HXA := Lib.hid (heap_alloc_new wr (.cells #[.int .i64 1, .int .i64 5] 43))
      have HXL := Lib.hid ((Array.getElem?_eq_some_iff.1 (heap_alloc_new wr (.cells #[.int .i64 1, .int .i64 5] 43))).1)
      have HAL := Lib.hid (show Below w2.heap.size w2 (wr.alloc (.cells #[.int .i64 1, .int .i64 5] 43)) from HB.out.alloc HB.out.size _)
      have HMA := Lib.hid ((HAL.out.block w.heap.size (Array.getElem?_eq_some_iff.1 HGA2.out).1).trans HGA2.out)
      have HML := Lib.hid ((Array.getElem?_eq_some_iff.1 HMA.out).1)
      clear hsc9 hsl
      go_wp2_with fail
      refine wp_region_fill (by kernel_rfl) (by kernel_rfl) (by kernel_rfl) (Below (wr.alloc (.cells #[.int .i64 1, .int .i64 5] 43)).heap.size (wr.alloc (.cells #[.int .i64 1, .int .i64 5] 43))) (FV (fun j_9 => match j_9 with | 0 => some (.pointer (some ⟨wr.heap.size, 1, none⟩)) | 1 => some (.int .i64 5) | 2 => some (.agg #[.int .i64 0, .int .i64 0, .int .i64 0, .slice none 0 0, .slice none 0 0, .slice none 0 0]) | 3 => some (.pointer (some ⟨wr.heap.size, 0, none⟩)) | 4 => some (.int .i64 1) | 5 => some (.int .i64 0) | 6 => some (.bool false) | _ => none) (fun _ _ => True)) (Below.refl _ _).drew ?_ ?_
      · intro i9 o ho V w9 K hJ hdep hK
        have HJ := Lib.hid hJ
        simp only [fill, slotOf, List.size_toArray, List.length_cons, List.length_nil, Nat.reduceAdd, List.getElem?_toArray, List.getElem?_cons_zero, List.getElem?_cons_succ, Option.bind_some, Act.put, List.setIfInBounds_toArray, List.set_cons_zero, List.set_cons_succ] at hK ⊢
        have hin : i9 < 7 := (Array.getElem?_eq_some_iff.1 ho).1
        have hcs : i9 = 0 ∨ i9 = 1 ∨ i9 = 2 ∨ i9 = 3 ∨ i9 = 4 ∨ i9 = 5 ∨ i9 = 6 := by omega
        clear hin
        rcases hcs with rfl | rfl | rfl | rfl | rfl | rfl | rfl
        · obtain rfl := Option.some.inj ho.symm
          clear hdep ho hJ
          try simp only [fill, slotOf, List.size_toArray, List.length_cons, List.length_nil, Nat.reduceAdd, List.getElem?_toArray, List.getElem?_cons_zero, List.getElem?_cons_succ, Option.bind_some, Act.put, List.setIfInBounds_toArray, List.set_cons_zero, List.set_cons_succ] at hK ⊢
          go_simp
          exact hK (.pointer (some ⟨wr.heap.size, 1, none⟩)) _ HJ.out rfl (fun j y h => h) _ rfl
        · obtain rfl := Option.some.inj ho.symm
          have d0 : V 0 = .pointer (some ⟨wr.heap.size, 1, none⟩) := hdep ⟨0, .data⟩ (by simp) rfl
          have e1 : w9.cell? ⟨wr.heap.size, 1, none⟩ = some (.int .i64 5) := (hJ.cell (p := ⟨wr.heap.size, 1, none⟩) HXL.out).trans (cell_blk HXA.out rfl)
          clear hdep ho hJ
          try simp only [fill, slotOf, List.size_toArray, List.length_cons, List.length_nil, Nat.reduceAdd, List.getElem?_toArray, List.getElem?_cons_zero, List.getElem?_cons_succ, Option.bind_some, Act.put, List.setIfInBounds_toArray, List.set_cons_zero, List.set_cons_succ] at hK ⊢
          rw [d0] at hK ⊢
          go_simp
          exact hK (.int .i64 5) _ HJ.out rfl (fun j y h => h) _ rfl
        · obtain rfl := Option.some.inj ho.symm
          have m0 : w9.cell? ⟨w.heap.size, 0, none⟩ = some (.int .i64 0) := (hJ.cell (p := ⟨w.heap.size, 0, none⟩) HML.out).trans (cell_blk HMA.out rfl)
          have m1 : w9.cell? ⟨w.heap.size, 1, none⟩ = some (.int .i64 0) := (hJ.cell (p := ⟨w.heap.size, 1, none⟩) HML.out).trans (cell_blk HMA.out rfl)
          have m2 : w9.cell? ⟨w.heap.size, 2, none⟩ = some (.int .i64 0) := (hJ.cell (p := ⟨w.heap.size, 2, none⟩) HML.out).trans (cell_blk HMA.out rfl)
          have m3 : w9.cell? ⟨w.heap.size, 3, none⟩ = some (.slice none 0 0) := (hJ.cell (p := ⟨w.heap.size, 3, none⟩) HML.out).trans (cell_blk HMA.out rfl)
          have m4 : w9.cell? ⟨w.heap.size, 4, none⟩ = some (.slice none 0 0) := (hJ.cell (p := ⟨w.heap.size, 4, none⟩) HML.out).trans (cell_blk HMA.out rfl)
          have m5 : w9.cell? ⟨w.heap.size, 5, none⟩ = some (.slice none 0 0) := (hJ.cell (p := ⟨w.heap.size, 5, none⟩) HML.out).trans (cell_blk HMA.out rfl)
          clear hdep ho hJ
          try simp only [fill, slotOf, List.size_toArray, List.length_cons, List.length_nil, Nat.reduceAdd, List.getElem?_toArray, List.getElem?_cons_zero, List.getElem?_cons_succ, Option.bind_some, Act.put, List.setIfInBounds_toArray, List.set_cons_zero, List.set_cons_succ] at hK ⊢
          go_simp
          exact hK (.agg #[.int .i64 0, .int .i64 0, .int .i64 0, .slice none 0 0, .slice none 0 0, .slice none 0 0]) _ HJ.out rfl (fun j y h => h) _ rfl
        · obtain rfl := Option.some.inj ho.symm
          clear hdep ho hJ
          try simp only [fill, slotOf, List.size_toArray, List.length_cons, List.length_nil, Nat.reduceAdd, List.getElem?_toArray, List.getElem?_cons_zero, List.getElem?_cons_succ, Option.bind_some, Act.put, List.setIfInBounds_toArray, List.set_cons_zero, List.set_cons_succ] at hK ⊢
          go_simp
          exact hK (.pointer (some ⟨wr.heap.size, 0, none⟩)) _ HJ.out rfl (fun j y h => h) _ rfl
        · obtain rfl := Option.some.inj ho.symm
          have d3 : V 3 = .pointer (some ⟨wr.heap.size, 0, none⟩) := hdep ⟨3, .data⟩ (by simp) rfl
          have e0 : w9.cell? ⟨wr.heap.size, 0, none⟩ = some (.int .i64 1) := (hJ.cell (p := ⟨wr.heap.size, 0, none⟩) HXL.out).trans (cell_blk HXA.out rfl)
          clear hdep ho hJ
          try simp only [fill, slotOf, List.size_toArray, List.length_cons, List.length_nil, Nat.reduceAdd, List.getElem?_toArray, List.getElem?_cons_zero, List.getElem?_cons_succ, Option.bind_some, Act.put, List.setIfInBounds_toArray, List.set_cons_zero, List.set_cons_succ] at hK ⊢
          rw [d3] at hK ⊢
          go_simp
          exact hK (.int .i64 1) _ HJ.out rfl (fun j y h => h) _ rfl
        · obtain rfl := Option.some.inj ho.symm
          have d2 : V 2 = .agg #[.int .i64 0, .int .i64 0, .int .i64 0, .slice none 0 0, .slice none 0 0, .slice none 0 0] := hdep ⟨2, .data⟩ (by simp) rfl
          have d4 : V 4 = .int .i64 1 := hdep ⟨4, .data⟩ (by simp) rfl
          clear hdep ho hJ
          try simp only [fill, slotOf, List.size_toArray, List.length_cons, List.length_nil, Nat.reduceAdd, List.getElem?_toArray, List.getElem?_cons_zero, List.getElem?_cons_succ, Option.bind_some, Act.put, List.setIfInBounds_toArray, List.set_cons_zero, List.set_cons_succ] at hK ⊢
          rw [d2, d4] at hK ⊢
          go_simp
          refine (mark_any (w := w9) (s := 0) (d := 0) (hz := 0) (ea := none) (en := 0) (ec := 0) (oa := none) (on := 0) (oc := 0) (VecAt.empty (S := MarkS) w9 none 0 (by omega) (fun _ => rfl)) 1).mono ?_
          rintro e w8 ⟨rfl, hb8⟩
          exact hK (.int .i64 0) _ (HJ.out.trans (hb8.mono HJ.out.size)) rfl (FV.mono ((fun _ _ _ => trivial) hb8)) _ rfl
        · obtain rfl := Option.some.inj ho.symm
          have d1 : V 1 = .int .i64 5 := hdep ⟨1, .data⟩ (by simp) rfl
          have d5 : V 5 = .int .i64 0 := hdep ⟨5, .data⟩ (by simp) rfl
          clear hdep ho hJ
          try simp only [fill, slotOf, List.size_toArray, List.length_cons, List.length_nil, Nat.reduceAdd, List.getElem?_toArray, List.getElem?_cons_zero, List.getElem?_cons_succ, Option.bind_some, Act.put, List.setIfInBounds_toArray, List.set_cons_zero, List.set_cons_succ] at hK ⊢
          rw [d1, d5] at hK ⊢
          go_simp
          exact hK (.bool false) _ HJ.out rfl (fun j y h => h) _ rfl
      · intro V w9 hJ hall
        have dL : V 6 = .bool false := hall 6 (by decide)
        have HJ9 := Lib.hid hJ
        clear hall hJ
        simp only [fill, slotOf, List.size_toArray, List.length_cons, List.length_nil, Nat.reduceAdd, List.getElem?_toArray, List.getElem?_cons_zero, List.getElem?_cons_succ, Option.bind_some, Act.put, List.setIfInBounds_toArray, List.set_cons_zero, List.set_cons_succ]
        rw [dL]
        clear dL
        have HBZ := Lib.hid (HAL.out.trans (HJ9.out.mono HAL.out.size))
        go_wp2_with fail
        go_roundw
        case rel => exact ⟨1, by omega, rfl, HBZ⟩
        case measure => simp [intOf]
    · obtain rfl : k = 1 := by omega
      go_wp2_with fail
      go_ret
      exact ⟨rfl, HB2.out.trans (HB.out.mono HB2.out.size)⟩

set_option maxRecDepth 100000 in
set_option maxHeartbeats 4000000 in
theorem remaining_nil (g c : Nat) (w : World) :
    Calls Tryz.prog 65 #[.agg #[.int .i64 0, .int .i64 0, .int .i64 0, .slice none 0 0, .slice none 0 0, .slice none 0 0], .agg #[.slice none 0 0, .slice none 0 0, .slice (some ⟨g, 0, none⟩) 1 c, .int .i64 0, .int .i64 0, .int .i64 1, .int .i64 1, .int .i64 1]] w fun e w' => ∃ b, e = .returned (.tuple #[.map (some b), .int .i64 0]) ∧ NoMap w' b ∧ w.heap.size ≤ b ∧ Below w.heap.size w w' := by
  obtain ⟨wa, hwa⟩ : ∃ wa, wa = w.alloc (.cells #[.int .i64 0, .int .i64 0, .int .i64 0, .slice none 0 0, .slice none 0 0, .slice none 0 0] 26) := ⟨_, rfl⟩
  obtain ⟨wb, hwb⟩ : ∃ wb, wb = wa.alloc (.cells #[.slice none 0 0, .slice none 0 0, .slice (some ⟨g, 0, none⟩) 1 c, .int .i64 0, .int .i64 0, .int .i64 1, .int .i64 1, .int .i64 1] 48) := ⟨_, rfl⟩
  obtain ⟨wc, hwc⟩ : ∃ wc, wc = wb.alloc (.map #[] 0) := ⟨_, rfl⟩
  have sa : wa.heap.size = w.heap.size + 1 := by rw [hwa]; exact Array.size_push _
  have sb : wb.heap.size = w.heap.size + 2 := by rw [hwb]; show (wa.heap.push _).size = _; rw [Array.size_push, sa]
  have ba : Below w.heap.size w wa := by rw [hwa]; exact (Below.refl _ _).alloc (Nat.le_refl _) _
  have bb : Below w.heap.size w wb := by rw [hwb]; exact ba.alloc ba.size _
  have bc : Below w.heap.size w wc := by rw [hwc]; exact bb.alloc bb.size _
  have gb : wc.heap[w.heap.size + 1]? = some (.cells #[.slice none 0 0, .slice none 0 0, .slice (some ⟨g, 0, none⟩) 1 c, .int .i64 0, .int .i64 0, .int .i64 1, .int .i64 1, .int .i64 1] 48 (0, 0)) := by rw [hwc, hao9 _ _ _ (by omega), hwb, ← sa]; exact heap_alloc_new _ _
  have ga : wc.heap[w.heap.size]? = some (.cells #[.int .i64 0, .int .i64 0, .int .i64 0, .slice none 0 0, .slice none 0 0, .slice none 0 0] 26 (0, 0)) := by rw [hwc, hao9 _ _ _ (by omega), hwb, hao9 _ _ _ (by omega), hwa]; exact heap_alloc_new _ _
  have HNM := Lib.hid (show NoMap wc wb.heap.size from by rw [hwc]; exact NoMap.made wb)
  have HBC := Lib.hid bc
  have HWB := Lib.hid (show (w.alloc (.cells #[.int .i64 0, .int .i64 0, .int .i64 0, .slice none 0 0, .slice none 0 0, .slice none 0 0] 26)).alloc (.cells #[.slice none 0 0, .slice none 0 0, .slice (some ⟨g, 0, none⟩) 1 c, .int .i64 0, .int .i64 0, .int .i64 1, .int .i64 1, .int .i64 1] 48) = wb from by rw [hwb, hwa])
  have HWC := Lib.hid (show wb.alloc (.map #[] 0) = wc from hwc.symm)
  have HSB := Lib.hid sb
  have a0 : wc.cell? ⟨w.heap.size, 0, none⟩ = some (.int .i64 0) := cell_blk ga rfl
  have a1 : wc.cell? ⟨w.heap.size, 1, none⟩ = some (.int .i64 0) := cell_blk ga rfl
  have a2 : wc.cell? ⟨w.heap.size, 2, none⟩ = some (.int .i64 0) := cell_blk ga rfl
  have a3 : wc.cell? ⟨w.heap.size, 3, none⟩ = some (.slice none 0 0) := cell_blk ga rfl
  have a4 : wc.cell? ⟨w.heap.size, 4, none⟩ = some (.slice none 0 0) := cell_blk ga rfl
  have a5 : wc.cell? ⟨w.heap.size, 5, none⟩ = some (.slice none 0 0) := cell_blk ga rfl
  have b0 : wc.cell? ⟨w.heap.size + 1, 0, none⟩ = some (.slice none 0 0) := cell_blk gb rfl
  have b1 : wc.cell? ⟨w.heap.size + 1, 1, none⟩ = some (.slice none 0 0) := cell_blk gb rfl
  have b2 : wc.cell? ⟨w.heap.size + 1, 2, none⟩ = some (.slice (some ⟨g, 0, none⟩) 1 c) := cell_blk gb rfl
  have b3 : wc.cell? ⟨w.heap.size + 1, 3, none⟩ = some (.int .i64 0) := cell_blk gb rfl
  have b4 : wc.cell? ⟨w.heap.size + 1, 4, none⟩ = some (.int .i64 0) := cell_blk gb rfl
  have b5 : wc.cell? ⟨w.heap.size + 1, 5, none⟩ = some (.int .i64 1) := cell_blk gb rfl
  have b6 : wc.cell? ⟨w.heap.size + 1, 6, none⟩ = some (.int .i64 1) := cell_blk gb rfl
  have b7 : wc.cell? ⟨w.heap.size + 1, 7, none⟩ = some (.int .i64 1) := cell_blk gb rfl
  clear hwb hwa hwc sa sb ba bb bc gb ga
  have hmap := @run_makeMap Tryz.prog
  go_enter Tryz.func65, Tryz.ntmps65
  go_wp2_with fail
  rw [HWB.out, HWC.out]
  go_wp2_with fail
  refine wp_loop_rounds 1 ?_
  rw [rounds_succ]
  go_wp2_with fail
  refine wp_loop_rounds 1 ?_
  rw [rounds_succ]
  go_wp2_with fail
  refine wp_loop_rounds 1 ?_
  rw [rounds_succ]
  go_wp2_with fail
  refine wp_loop_rounds 1 ?_
  rw [rounds_succ]
  go_wp2_with fail
  first | go_ret2 | go_ret
  exact ⟨w.heap.size + 1 + 1, rfl, by have e := HNM.out; rw [HSB.out] at e; exact e, by omega, HBC.out⟩

end Go.Proofs.YtbdgcfimbblncaaGreatDoor
end PkMB2_5
section PkMB2_6
/- Manifests: layer 13's fixed edit, made on the manifest of nothing, walked. Written by genmfg.py. -/
namespace Go.Proofs.YtbdgcfimbblncaaGreatDoor
open Go.RowKit LabPlain
set_option linter.unusedVariables false

/-- what a store into one cell leaves -/
structure SetAt (w : World) (B : Nat) (cs : Array Value) (t : TypeId) (w' : World) : Prop where
  row : w'.heap[B]? = some (.cells cs t (0, 0))
  other : ∀ k, k ≠ B → w'.heap[k]? = w.heap[k]?
theorem cells_set {w : World} {B : Nat} {cs : Array Value} {t : TypeId} (g : w.heap[B]? = some (.cells cs t (0, 0))) (i : Nat) (u : Value) : SetAt w B (cs.setIfInBounds i u) t (w.setCell ⟨B, i, none⟩ u) :=
  ⟨heap_set g i u, fun k hk => Below.heap_setCell w _ u k hk⟩
theorem vec_set {α : Type} {S : Sty α} {w : World} {a : Option Addr} {n c : Nat} {l : List α} {B i : Nat} {u : Value} (h : VecAt S w a n c l) (hok : ∀ x, S.ok w x → S.ok (w.setCell ⟨B, i, none⟩ u) x) (hne : ∀ b off s, a = some ⟨b, off, s⟩ → b ≠ B) : VecAt S (w.setCell ⟨B, i, none⟩ u) a n c l :=
  ⟨h.len, h.cap, h.capm, h.nl, fun x hx => hok x (h.all x hx), fun hn => by
    obtain ⟨b, off, ha, hlt, hc⟩ := h.cells hn
    have hb : (w.setCell ⟨B, i, none⟩ u).heap[b]? = w.heap[b]? := Below.heap_setCell w _ u b (hne b off none ha)
    refine ⟨b, off, ha, by simpa using hlt, fun i hi j v hv => ?_⟩
    exact (World.cell?_of_block (w := w) (a := ⟨b, _, none⟩) hb).trans (hc i hi j v hv)⟩
theorem clone_nilO' (w : World) : Calls Tryz.prog 73 #[.slice none 0 0] w fun e w' => e = .returned (.slice none 0 0) ∧ Below w.heap.size w w' :=
  (clone_nilO w).mono (fun e w' h => ⟨h.1, by rw [h.2]; exact Below.refl _ _⟩)
/-- a world in which the made manifest's last cell may have been set -/
structure JpA (w0 W : World) (B : Nat) (E M : Value) (w' : World) : Prop where
  below : Below w0.heap.size w0 w'
  size : W.heap.size ≤ w'.heap.size
  old : ∀ k, k < W.heap.size → k ≠ B → w'.heap[k]? = W.heap[k]?
  row : ∃ x, w'.heap[B]? = some (.cells #[.int .i64 1, .int .i64 0, .int .i64 0, E, M, x] 26 (0, 0))
theorem JpA.lt {w0 W w' : World} {B : Nat} {E M : Value} (h : JpA w0 W B E M w') : B < w'.heap.size := by
  obtain ⟨x, hx⟩ := h.row
  exact (Array.getElem?_eq_some_iff.1 hx).1
theorem JpA.trans {w0 W w' w'' : World} {B : Nat} {E M : Value} (h : JpA w0 W B E M w') (hb : Below w'.heap.size w' w'') : JpA w0 W B E M w'' :=
  ⟨h.below.trans (hb.mono h.below.size), Nat.le_trans h.size hb.size, fun k hk hn => (hb.block k (Nat.lt_of_lt_of_le hk h.size)).trans (h.old k hk hn), by
    obtain ⟨x, hx⟩ := h.row
    exact ⟨x, (hb.block B h.lt).trans hx⟩⟩
theorem JpA.drew {w0 W w' : World} {B : Nat} {E M : Value} (h : JpA w0 W B E M w') : JpA w0 W B E M w'.drew := ⟨h.below.drew, h.size, h.old, h.row⟩
theorem JpA.set {w0 W w' : World} {B : Nat} {E M : Value} (h : JpA w0 W B E M w') (hB : w0.heap.size ≤ B) (u : Value) : JpA w0 W B E M (w'.setCell ⟨B, 5, none⟩ u) := by
  obtain ⟨x, hx⟩ := h.row
  exact ⟨h.below.setCell hB u, by simpa using h.size, fun k hk hn => ((cells_set hx 5 u).other k hn).trans (h.old k hk hn), u, (cells_set hx 5 u).row⟩
/-- what the owners' row and the store of it leave -/
@[reducible] def SpA (B : Nat) (E M : Value) (j : Nat) (u : Value) (w : World) : Prop := match j with
  | 5 => ∃ g2 c2, u = .slice (some ⟨g2, 0, none⟩) 1 c2 ∧ B < g2 ∧ VecAt OwnS w (some ⟨g2, 0, none⟩) 1 c2 [(1, 1, 1)]
  | 7 => ∃ g2 c2, w.heap[B]? = some (.cells #[.int .i64 1, .int .i64 0, .int .i64 0, E, M, .slice (some ⟨g2, 0, none⟩) 1 c2] 26 (0, 0)) ∧ VecAt OwnS w (some ⟨g2, 0, none⟩) 1 c2 [(1, 1, 1)] ∧ B < g2
  | _ => True
theorem SpA.at5 {B : Nat} {E M : Value} {w : World} {g2 c2 : Nat} (h : B < g2) (hv : VecAt OwnS w (some ⟨g2, 0, none⟩) 1 c2 [(1, 1, 1)]) : SpA B E M 5 (.slice (some ⟨g2, 0, none⟩) 1 c2) w := ⟨g2, c2, rfl, h, hv⟩
theorem SpA.mono {B : Nat} {E M : Value} {w w' : World} (hB : B < w.heap.size) (h : Below w.heap.size w w') : ∀ j u, SpA B E M j u w → SpA B E M j u w' := by
  intro j u hu
  unfold SpA at hu ⊢
  split at hu
  · obtain ⟨g2, c2, e, h1, h2⟩ := hu
    exact ⟨g2, c2, e, h1, h2.kept h⟩
  · obtain ⟨g2, c2, h1, h2, h3⟩ := hu
    exact ⟨g2, c2, (h.block B hB).trans h1, h2.kept h, h3⟩
  · trivial
theorem SpA.at7 {B : Nat} {E M x : Value} {w : World} {g2 c2 : Nat} {u : Value} (h : B < g2) (hx : w.heap[B]? = some (.cells #[.int .i64 1, .int .i64 0, .int .i64 0, E, M, x] 26 (0, 0))) (hv : VecAt OwnS w (some ⟨g2, 0, none⟩) 1 c2 [(1, 1, 1)]) : SpA B E M 7 u (w.setCell ⟨B, 5, none⟩ (.slice (some ⟨g2, 0, none⟩) 1 c2)) :=
  ⟨g2, c2, (cells_set hx 5 _).row, vec_set hv (fun _ h => h) (fun b off s e => by cases e; omega), h⟩
theorem SpA.set {B : Nat} {E M x : Value} {w : World} {g2 c2 : Nat} (h : B < g2) (hx : w.heap[B]? = some (.cells #[.int .i64 1, .int .i64 0, .int .i64 0, E, M, x] 26 (0, 0))) (hv : VecAt OwnS w (some ⟨g2, 0, none⟩) 1 c2 [(1, 1, 1)]) : ∀ j u, SpA B E M j u w → SpA B E M j u (w.setCell ⟨B, 5, none⟩ (.slice (some ⟨g2, 0, none⟩) 1 c2)) := by
  intro j u hu
  by_cases h7 : j = 7
  · subst h7
    exact SpA.at7 h hx hv
  · unfold SpA at hu ⊢
    split at hu
    · obtain ⟨g3, c3, e, h1, h2⟩ := hu
      exact ⟨g3, c3, e, h1, vec_set h2 (fun _ h => h) (fun b off s e => by cases e; omega)⟩
    · exact absurd rfl h7
    · trivial
theorem VecAt.kept2 {w0 W w' : World} {B g n c : Nat} {E M : Value} {l : List (Int × Int)} (h : VecAt MarkS W (some ⟨g, 0, none⟩) n c l) (hj : JpA w0 W B E M w') (hg : B < g) : VecAt MarkS w' (some ⟨g, 0, none⟩) n c l :=
  ⟨h.len, h.cap, h.capm, h.nl, fun _ _ => trivial, fun hn => by
    obtain ⟨b, off, ha, hlt, hc⟩ := h.cells hn
    have hb : w'.heap[b]? = W.heap[b]? := hj.old b hlt (by cases ha; omega)
    refine ⟨b, off, ha, Nat.lt_of_lt_of_le hlt hj.size, fun i hi j v hv => ?_⟩
    exact (World.cell?_of_block (w := W) (a := ⟨b, _, none⟩) hb).trans (hc i hi j v hv)⟩
/-- a manifest's six cells, set -/
theorem set6 {v : World} {R : Nat} {c0 c1 c2 c3 c4 c5 : Value} {t : TypeId} (g : v.heap[R]? = some (.cells #[c0, c1, c2, c3, c4, c5] t (0, 0))) (x0 x1 x2 x3 x4 x5 : Value) : ((((((v.setCell ⟨R, 0, none⟩ x0).setCell ⟨R, 1, none⟩ x1).setCell ⟨R, 2, none⟩ x2).setCell ⟨R, 3, none⟩ x3).setCell ⟨R, 4, none⟩ x4).setCell ⟨R, 5, none⟩ x5).heap[R]? = some (.cells #[x0, x1, x2, x3, x4, x5] t (0, 0)) := by
  have h := heap_set (heap_set (heap_set (heap_set (heap_set (heap_set g 0 x0) 1 x1) 2 x2) 3 x3) 4 x4) 5 x5
  simp only [List.setIfInBounds_toArray, List.set_cons_zero, List.set_cons_succ] at h
  exact h
theorem below6 {B R : Nat} {w v : World} (h : Below B w v) (hR : B ≤ R) (x0 x1 x2 x3 x4 x5 : Value) : Below B w ((((((v.setCell ⟨R, 0, none⟩ x0).setCell ⟨R, 1, none⟩ x1).setCell ⟨R, 2, none⟩ x2).setCell ⟨R, 3, none⟩ x3).setCell ⟨R, 4, none⟩ x4).setCell ⟨R, 5, none⟩ x5) :=
  (((((h.setCell (p := ⟨R, 0, none⟩) hR x0).setCell (p := ⟨R, 1, none⟩) hR x1).setCell (p := ⟨R, 2, none⟩) hR x2).setCell (p := ⟨R, 3, none⟩) hR x3).setCell (p := ⟨R, 4, none⟩) hR x4).setCell (p := ⟨R, 5, none⟩) hR x5
theorem vec6 {α : Type} {S : Sty α} {v : World} {R g : Nat} {n c : Nat} {l : List α} (h : VecAt S v (some ⟨g, 0, none⟩) n c l) (hok : ∀ (w w' : World) x, S.ok w x → S.ok w' x) (hne : g ≠ R) (x0 x1 x2 x3 x4 x5 : Value) : VecAt S ((((((v.setCell ⟨R, 0, none⟩ x0).setCell ⟨R, 1, none⟩ x1).setCell ⟨R, 2, none⟩ x2).setCell ⟨R, 3, none⟩ x3).setCell ⟨R, 4, none⟩ x4).setCell ⟨R, 5, none⟩ x5) (some ⟨g, 0, none⟩) n c l := by
  have hn : ∀ b off s, (some (⟨g, 0, none⟩ : Addr)) = some ⟨b, off, s⟩ → b ≠ R := fun b off s e => by cases e; exact hne
  exact vec_set (vec_set (vec_set (vec_set (vec_set (vec_set h (hok _ _) hn) (hok _ _) hn) (hok _ _) hn) (hok _ _) hn) (hok _ _) hn) (hok _ _) hn

set_option maxRecDepth 100000 in
set_option maxHeartbeats 8000000 in
theorem apply_fix {w : World} {g c : Nat} (h : VecAt MarkS w (some ⟨g, 0, none⟩) 1 c [(1, 5)]) :
    Calls Tryz.prog 18 #[.agg #[.int .i64 0, .int .i64 0, .int .i64 0, .slice none 0 0, .slice none 0 0, .slice none 0 0], .agg #[.slice none 0 0, .slice none 0 0, .slice (some ⟨g, 0, none⟩) 1 c, .int .i64 0, .int .i64 0, .int .i64 1, .int .i64 1, .int .i64 1]] w fun e w' => ∃ ea ec g1 c1 g2 c2, e = .returned (.tuple #[.agg #[.int .i64 1, .int .i64 0, .int .i64 0, .slice ea 0 ec, .slice (some ⟨g1, 0, none⟩) 1 c1, .slice (some ⟨g2, 0, none⟩) 1 c2], .int .i64 0]) ∧ VecAt MarkS w' (some ⟨g1, 0, none⟩) 1 c1 [(1, 5)] ∧ VecAt OwnS w' (some ⟨g2, 0, none⟩) 1 c2 [(1, 1, 1)] ∧ Below w.heap.size w w' := by
  have hcap := h.cap
  have hcm := h.capm
  obtain ⟨wa, hwa⟩ : ∃ wa, wa = w.alloc (.cells #[.int .i64 0, .int .i64 0, .int .i64 0, .slice none 0 0, .slice none 0 0, .slice none 0 0] 26) := ⟨_, rfl⟩
  obtain ⟨wb, hwb⟩ : ∃ wb, wb = wa.alloc (.cells #[.slice none 0 0, .slice none 0 0, .slice (some ⟨g, 0, none⟩) 1 c, .int .i64 0, .int .i64 0, .int .i64 1, .int .i64 1, .int .i64 1] 48) := ⟨_, rfl⟩
  obtain ⟨wc, hwc⟩ : ∃ wc, wc = wb.alloc (.cells #[.int .i64 0, .int .i64 0, .int .i64 0, .slice none 0 0, .slice none 0 0, .slice none 0 0] 26) := ⟨_, rfl⟩
  have sa : wa.heap.size = w.heap.size + 1 := by rw [hwa]; exact Array.size_push _
  have sb : wb.heap.size = w.heap.size + 2 := by rw [hwb]; show (wa.heap.push _).size = _; rw [Array.size_push, sa]
  have ba : Below w.heap.size w wa := by rw [hwa]; exact (Below.refl _ _).alloc (Nat.le_refl _) _
  have bb : Below w.heap.size w wb := by rw [hwb]; exact ba.alloc ba.size _
  have bc : Below w.heap.size w wc := by rw [hwc]; exact bb.alloc bb.size _
  have gc : wc.heap[w.heap.size + 1 + 1]? = some (.cells #[.int .i64 0, .int .i64 0, .int .i64 0, .slice none 0 0, .slice none 0 0, .slice none 0 0] 26 (0, 0)) := by rw [hwc, show w.heap.size + 1 + 1 = wb.heap.size from by omega]; exact heap_alloc_new _ _
  have gb : wc.heap[w.heap.size + 1]? = some (.cells #[.slice none 0 0, .slice none 0 0, .slice (some ⟨g, 0, none⟩) 1 c, .int .i64 0, .int .i64 0, .int .i64 1, .int .i64 1, .int .i64 1] 48 (0, 0)) := by rw [hwc, hao9 _ _ _ (by omega), hwb, ← sa]; exact heap_alloc_new _ _
  have ga : wc.heap[w.heap.size]? = some (.cells #[.int .i64 0, .int .i64 0, .int .i64 0, .slice none 0 0, .slice none 0 0, .slice none 0 0] 26 (0, 0)) := by rw [hwc, hao9 _ _ _ (by omega), hwb, hao9 _ _ _ (by omega), hwa]; exact heap_alloc_new _ _
  have HH := Lib.hid h
  have HBc := Lib.hid bc
  have G2wc := Lib.hid ga
  have G3wc := Lib.hid gb
  have G4wc := Lib.hid gc
  have HWC := Lib.hid (show ((w.alloc (.cells #[.int .i64 0, .int .i64 0, .int .i64 0, .slice none 0 0, .slice none 0 0, .slice none 0 0] 26)).alloc (.cells #[.slice none 0 0, .slice none 0 0, .slice (some ⟨g, 0, none⟩) 1 c, .int .i64 0, .int .i64 0, .int .i64 1, .int .i64 1, .int .i64 1] 48)).alloc (.cells #[.int .i64 0, .int .i64 0, .int .i64 0, .slice none 0 0, .slice none 0 0, .slice none 0 0] 26) = wc from by rw [hwc, hwb, hwa])
  have a0 : wc.cell? ⟨w.heap.size, 0, none⟩ = some (.int .i64 0) := cell_blk ga rfl
  have a1 : wc.cell? ⟨w.heap.size, 1, none⟩ = some (.int .i64 0) := cell_blk ga rfl
  have a2 : wc.cell? ⟨w.heap.size, 2, none⟩ = some (.int .i64 0) := cell_blk ga rfl
  have a3 : wc.cell? ⟨w.heap.size, 3, none⟩ = some (.slice none 0 0) := cell_blk ga rfl
  have a4 : wc.cell? ⟨w.heap.size, 4, none⟩ = some (.slice none 0 0) := cell_blk ga rfl
  have a5 : wc.cell? ⟨w.heap.size, 5, none⟩ = some (.slice none 0 0) := cell_blk ga rfl
  clear hwb hwa hwc sa sb ba bb bc gb ga gc h
  go_enter Tryz.func18, Tryz.ntmps18
  go_wp2_with fail
  rw [HWC.out]
  go_wp2_with fail
  refine (right_zero wc).mono ?_
  rintro e w1 ⟨rfl, hb1⟩
  have HB1 := Lib.hid (HBc.out.trans (hb1.mono HBc.out.size))
  have G2w1 := Lib.hid ((hb1.block (w.heap.size) (Array.getElem?_eq_some_iff.1 G2wc.out).1).trans G2wc.out)
  have G3w1 := Lib.hid ((hb1.block (w.heap.size + 1) (Array.getElem?_eq_some_iff.1 G3wc.out).1).trans G3wc.out)
  have G4w1 := Lib.hid ((hb1.block (w.heap.size + 1 + 1) (Array.getElem?_eq_some_iff.1 G4wc.out).1).trans G4wc.out)
  clear a0 a1 a2 a3 a4 a5
  have e0 : w1.cell? ⟨w.heap.size + 1, 0, none⟩ = some (.slice none 0 0) := cell_blk G3w1.out rfl
  have e1 : w1.cell? ⟨w.heap.size + 1, 1, none⟩ = some (.slice none 0 0) := cell_blk G3w1.out rfl
  have e2 : w1.cell? ⟨w.heap.size + 1, 2, none⟩ = some (.slice (some ⟨g, 0, none⟩) 1 c) := cell_blk G3w1.out rfl
  have e3 : w1.cell? ⟨w.heap.size + 1, 3, none⟩ = some (.int .i64 0) := cell_blk G3w1.out rfl
  have e4 : w1.cell? ⟨w.heap.size + 1, 4, none⟩ = some (.int .i64 0) := cell_blk G3w1.out rfl
  have e5 : w1.cell? ⟨w.heap.size + 1, 5, none⟩ = some (.int .i64 1) := cell_blk G3w1.out rfl
  have e6 : w1.cell? ⟨w.heap.size + 1, 6, none⟩ = some (.int .i64 1) := cell_blk G3w1.out rfl
  have e7 : w1.cell? ⟨w.heap.size + 1, 7, none⟩ = some (.int .i64 1) := cell_blk G3w1.out rfl
  have HRE := Lib.hid (rightEdit_yes (HH.out.kept HB1.out))
  clear hb1
  go_wp2_with fail
  refine HRE.out.mono ?_
  rintro e w2 ⟨rfl, hb2⟩
  have HB2 := Lib.hid (HB1.out.trans (hb2.mono HB1.out.size))
  have G2w2 := Lib.hid ((hb2.block (w.heap.size) (Array.getElem?_eq_some_iff.1 G2w1.out).1).trans G2w1.out)
  have G3w2 := Lib.hid ((hb2.block (w.heap.size + 1) (Array.getElem?_eq_some_iff.1 G3w1.out).1).trans G3w1.out)
  have G4w2 := Lib.hid ((hb2.block (w.heap.size + 1 + 1) (Array.getElem?_eq_some_iff.1 G4w1.out).1).trans G4w1.out)
  clear e0 e1 e2 e3 e4 e5 e6 e7
  have a0 : w2.cell? ⟨w.heap.size, 0, none⟩ = some (.int .i64 0) := cell_blk G2w2.out rfl
  have a1 : w2.cell? ⟨w.heap.size, 1, none⟩ = some (.int .i64 0) := cell_blk G2w2.out rfl
  have a2 : w2.cell? ⟨w.heap.size, 2, none⟩ = some (.int .i64 0) := cell_blk G2w2.out rfl
  have a3 : w2.cell? ⟨w.heap.size, 3, none⟩ = some (.slice none 0 0) := cell_blk G2w2.out rfl
  have a4 : w2.cell? ⟨w.heap.size, 4, none⟩ = some (.slice none 0 0) := cell_blk G2w2.out rfl
  have a5 : w2.cell? ⟨w.heap.size, 5, none⟩ = some (.slice none 0 0) := cell_blk G2w2.out rfl
  have e0 : w2.cell? ⟨w.heap.size + 1, 0, none⟩ = some (.slice none 0 0) := cell_blk G3w2.out rfl
  have e1 : w2.cell? ⟨w.heap.size + 1, 1, none⟩ = some (.slice none 0 0) := cell_blk G3w2.out rfl
  have e2 : w2.cell? ⟨w.heap.size + 1, 2, none⟩ = some (.slice (some ⟨g, 0, none⟩) 1 c) := cell_blk G3w2.out rfl
  have e3 : w2.cell? ⟨w.heap.size + 1, 3, none⟩ = some (.int .i64 0) := cell_blk G3w2.out rfl
  have e4 : w2.cell? ⟨w.heap.size + 1, 4, none⟩ = some (.int .i64 0) := cell_blk G3w2.out rfl
  have e5 : w2.cell? ⟨w.heap.size + 1, 5, none⟩ = some (.int .i64 1) := cell_blk G3w2.out rfl
  have e6 : w2.cell? ⟨w.heap.size + 1, 6, none⟩ = some (.int .i64 1) := cell_blk G3w2.out rfl
  have e7 : w2.cell? ⟨w.heap.size + 1, 7, none⟩ = some (.int .i64 1) := cell_blk G3w2.out rfl
  have HOD := Lib.hid (outdated_no (HH.out.kept HB2.out))
  clear hb2
  go_wp2_with fail
  refine HOD.out.mono ?_
  rintro e w3 ⟨rfl, hb3⟩
  have HB3 := Lib.hid (HB2.out.trans (hb3.mono HB2.out.size))
  have G2w3 := Lib.hid ((hb3.block (w.heap.size) (Array.getElem?_eq_some_iff.1 G2w2.out).1).trans G2w2.out)
  have G3w3 := Lib.hid ((hb3.block (w.heap.size + 1) (Array.getElem?_eq_some_iff.1 G3w2.out).1).trans G3w2.out)
  have G4w3 := Lib.hid ((hb3.block (w.heap.size + 1 + 1) (Array.getElem?_eq_some_iff.1 G4w2.out).1).trans G4w2.out)
  clear a0 a1 a2 a3 a4 a5 e0 e1 e2 e3 e4 e5 e6 e7
  have a0 : w3.cell? ⟨w.heap.size, 0, none⟩ = some (.int .i64 0) := cell_blk G2w3.out rfl
  have a1 : w3.cell? ⟨w.heap.size, 1, none⟩ = some (.int .i64 0) := cell_blk G2w3.out rfl
  have a2 : w3.cell? ⟨w.heap.size, 2, none⟩ = some (.int .i64 0) := cell_blk G2w3.out rfl
  have a3 : w3.cell? ⟨w.heap.size, 3, none⟩ = some (.slice none 0 0) := cell_blk G2w3.out rfl
  have a4 : w3.cell? ⟨w.heap.size, 4, none⟩ = some (.slice none 0 0) := cell_blk G2w3.out rfl
  have a5 : w3.cell? ⟨w.heap.size, 5, none⟩ = some (.slice none 0 0) := cell_blk G2w3.out rfl
  have e0 : w3.cell? ⟨w.heap.size + 1, 0, none⟩ = some (.slice none 0 0) := cell_blk G3w3.out rfl
  have e1 : w3.cell? ⟨w.heap.size + 1, 1, none⟩ = some (.slice none 0 0) := cell_blk G3w3.out rfl
  have e2 : w3.cell? ⟨w.heap.size + 1, 2, none⟩ = some (.slice (some ⟨g, 0, none⟩) 1 c) := cell_blk G3w3.out rfl
  have e3 : w3.cell? ⟨w.heap.size + 1, 3, none⟩ = some (.int .i64 0) := cell_blk G3w3.out rfl
  have e4 : w3.cell? ⟨w.heap.size + 1, 4, none⟩ = some (.int .i64 0) := cell_blk G3w3.out rfl
  have e5 : w3.cell? ⟨w.heap.size + 1, 5, none⟩ = some (.int .i64 1) := cell_blk G3w3.out rfl
  have e6 : w3.cell? ⟨w.heap.size + 1, 6, none⟩ = some (.int .i64 1) := cell_blk G3w3.out rfl
  have e7 : w3.cell? ⟨w.heap.size + 1, 7, none⟩ = some (.int .i64 1) := cell_blk G3w3.out rfl
  clear hb3
  go_wp2_with fail
  refine (remaining_nil g c w3).mono ?_
  rintro e w4 ⟨b, rfl, hnm, hbl, hb4⟩
  have HB4 := Lib.hid (HB3.out.trans (hb4.mono HB3.out.size))
  have HNM := Lib.hid hnm
  have HBL := Lib.hid (Nat.le_trans HB3.out.size hbl)
  have HBT := Lib.hid hnm.lt
  have G2w4 := Lib.hid ((hb4.block (w.heap.size) (Array.getElem?_eq_some_iff.1 G2w3.out).1).trans G2w3.out)
  have G3w4 := Lib.hid ((hb4.block (w.heap.size + 1) (Array.getElem?_eq_some_iff.1 G3w3.out).1).trans G3w3.out)
  have G4w4 := Lib.hid ((hb4.block (w.heap.size + 1 + 1) (Array.getElem?_eq_some_iff.1 G4w3.out).1).trans G4w3.out)
  clear a0 a1 a2 a3 a4 a5 e0 e1 e2 e3 e4 e5 e6 e7
  have a0 : w4.cell? ⟨w.heap.size, 0, none⟩ = some (.int .i64 0) := cell_blk G2w4.out rfl
  have a1 : w4.cell? ⟨w.heap.size, 1, none⟩ = some (.int .i64 0) := cell_blk G2w4.out rfl
  have a2 : w4.cell? ⟨w.heap.size, 2, none⟩ = some (.int .i64 0) := cell_blk G2w4.out rfl
  have a3 : w4.cell? ⟨w.heap.size, 3, none⟩ = some (.slice none 0 0) := cell_blk G2w4.out rfl
  have a4 : w4.cell? ⟨w.heap.size, 4, none⟩ = some (.slice none 0 0) := cell_blk G2w4.out rfl
  have a5 : w4.cell? ⟨w.heap.size, 5, none⟩ = some (.slice none 0 0) := cell_blk G2w4.out rfl
  have e0 : w4.cell? ⟨w.heap.size + 1, 0, none⟩ = some (.slice none 0 0) := cell_blk G3w4.out rfl
  have e1 : w4.cell? ⟨w.heap.size + 1, 1, none⟩ = some (.slice none 0 0) := cell_blk G3w4.out rfl
  have e2 : w4.cell? ⟨w.heap.size + 1, 2, none⟩ = some (.slice (some ⟨g, 0, none⟩) 1 c) := cell_blk G3w4.out rfl
  have e3 : w4.cell? ⟨w.heap.size + 1, 3, none⟩ = some (.int .i64 0) := cell_blk G3w4.out rfl
  have e4 : w4.cell? ⟨w.heap.size + 1, 4, none⟩ = some (.int .i64 0) := cell_blk G3w4.out rfl
  have e5 : w4.cell? ⟨w.heap.size + 1, 5, none⟩ = some (.int .i64 1) := cell_blk G3w4.out rfl
  have e6 : w4.cell? ⟨w.heap.size + 1, 6, none⟩ = some (.int .i64 1) := cell_blk G3w4.out rfl
  have e7 : w4.cell? ⟨w.heap.size + 1, 7, none⟩ = some (.int .i64 1) := cell_blk G3w4.out rfl
  have HL4 := Lib.hid (show w.heap.size + 1 + 1 < w4.heap.size from (Array.getElem?_eq_some_iff.1 G4w4.out).1)
  have hl4 := HL4.out
  have hl3 : w.heap.size + 1 < w4.heap.size := by omega
  have hl2 : w.heap.size < w4.heap.size := by omega
  clear hb4 hnm hbl
  go_wp2_with fail
  refine wp_loop_rounds 1 ?_
  rw [rounds_succ]
  go_wp2_with fail
  clear a0 a1 a2 a3 a4 a5 e0 e1 e2 e3 e4 e5 e6 e7 hl2 hl3 hl4

  obtain ⟨w5, hw5⟩ : ∃ w5, w5 = w4.alloc (.cells #[.int .i64 1, .int .i64 0, .int .i64 0, .slice none 0 0, .slice none 0 0, .slice none 0 0] 26) := ⟨_, rfl⟩
  have hb5 : Below w4.heap.size w4 w5 := by rw [hw5]; exact (Below.refl _ _).alloc (Nat.le_refl _) _
  have hg5 : w5.heap[w4.heap.size]? = some (.cells #[.int .i64 1, .int .i64 0, .int .i64 0, .slice none 0 0, .slice none 0 0, .slice none 0 0] 26 (0, 0)) := by rw [hw5]; exact heap_alloc_new _ _
  have HB5 := Lib.hid (HB4.out.trans (hb5.mono HB4.out.size))
  have G2w5 := Lib.hid ((hb5.block (w.heap.size) (Array.getElem?_eq_some_iff.1 G2w4.out).1).trans G2w4.out)
  have G3w5 := Lib.hid ((hb5.block (w.heap.size + 1) (Array.getElem?_eq_some_iff.1 G3w4.out).1).trans G3w4.out)
  have G4w5 := Lib.hid ((hb5.block (w.heap.size + 1 + 1) (Array.getElem?_eq_some_iff.1 G4w4.out).1).trans G4w4.out)
  have HG5 := Lib.hid hg5
  have HNM5 := Lib.hid (HNM.out.kept hb5)
  have HW5 := Lib.hid hw5
  have HDF := Lib.hid (fun fv => deletefunc_nil HNM5.out fv)
  clear hb5 hg5 hw5
  rw [← HW5.out]
  refine (HDF.out _).mono ?_
  rintro e w6 ⟨rfl, hb6⟩
  have HB6 := Lib.hid (HB5.out.trans (hb6.mono HB5.out.size))
  have G2w6 := Lib.hid ((hb6.block (w.heap.size) (Array.getElem?_eq_some_iff.1 G2w5.out).1).trans G2w5.out)
  have G3w6 := Lib.hid ((hb6.block (w.heap.size + 1) (Array.getElem?_eq_some_iff.1 G3w5.out).1).trans G3w5.out)
  have G4w6 := Lib.hid ((hb6.block (w.heap.size + 1 + 1) (Array.getElem?_eq_some_iff.1 G4w5.out).1).trans G4w5.out)
  have HG6 := Lib.hid ((hb6.block w4.heap.size (Array.getElem?_eq_some_iff.1 HG5.out).1).trans HG5.out)
  have HNM6 := Lib.hid (HNM5.out.kept hb6)
  have hlen := fun ty => World.ownsMap.len (t := 92) HNM6.out rfl ty
  simp only [show Maps.size (DataW.map ([] : List (Lit × DataW Unit))) = 0 from rfl] at hlen
  clear hb6
  go_wp2_with fail
  clear hlen
  refine (mvalues_any b).mono ?_
  rintro e w7 ⟨rfl, hw7⟩
  have hb7 : Below w6.heap.size w6 w7 := by rw [hw7]; exact (Below.refl _ _).alloc (Nat.le_refl _) _
  have hc7 : w7.cell? ⟨w6.heap.size, 0, none⟩ = some (.map (some b)) := by rw [hw7]; exact cell_blk (heap_alloc_new _ _) rfl
  have hs7 : w7.heap.size = w6.heap.size + 1 := by rw [hw7]; exact Array.size_push _
  have hn7 := HNM6.out.kept hb7
  have HSO := Lib.hid (sorted0E (w := w7) (gf := 103) (lb := #[.pointer (some ⟨w6.heap.size, 0, none⟩)]) (fun _ _ => rfl) (fun m _ => mseq_stops m w6.heap.size b w7 (by omega) hc7 hn7 w7.heap.size (Nat.le_refl _)) (.func (.func 38) #[] #[]))
  have HB7 := Lib.hid (HB6.out.trans (hb7.mono HB6.out.size))
  have G2w7 := Lib.hid ((hb7.block (w.heap.size) (Array.getElem?_eq_some_iff.1 G2w6.out).1).trans G2w6.out)
  have G3w7 := Lib.hid ((hb7.block (w.heap.size + 1) (Array.getElem?_eq_some_iff.1 G3w6.out).1).trans G3w6.out)
  have G4w7 := Lib.hid ((hb7.block (w.heap.size + 1 + 1) (Array.getElem?_eq_some_iff.1 G4w6.out).1).trans G4w6.out)
  have HG7 := Lib.hid ((hb7.block w4.heap.size (Array.getElem?_eq_some_iff.1 HG6.out).1).trans HG6.out)
  clear hb7 hc7 hs7 hn7 hw7
  go_wp2_with fail
  refine HSO.out.mono ?_
  rintro e w8 ⟨⟨qa, qc, rfl⟩, hb8⟩
  have HB8 := Lib.hid (HB7.out.trans (hb8.mono HB7.out.size))
  have G2w8 := Lib.hid ((hb8.block (w.heap.size) (Array.getElem?_eq_some_iff.1 G2w7.out).1).trans G2w7.out)
  have G3w8 := Lib.hid ((hb8.block (w.heap.size + 1) (Array.getElem?_eq_some_iff.1 G3w7.out).1).trans G3w7.out)
  have G4w8 := Lib.hid ((hb8.block (w.heap.size + 1 + 1) (Array.getElem?_eq_some_iff.1 G4w7.out).1).trans G4w7.out)
  have HG8 := Lib.hid ((hb8.block w4.heap.size (Array.getElem?_eq_some_iff.1 HG7.out).1).trans HG7.out)
  clear hb8
  have n3 : w8.cell? ⟨w4.heap.size, 3, none⟩ = some (.slice none 0 0) := cell_blk HG8.out rfl
  have f3 : w8.frozen? ⟨w4.heap.size, 3, none⟩ = false := fro_blk HG8.out 3
  have HX9 := Lib.hid (cells_set HG8.out 3 (.slice qa 0 qc))
  have HB9 := Lib.hid (show Below w.heap.size w (w8.setCell ⟨w4.heap.size, 3, none⟩ (.slice qa 0 qc)) from HB8.out.setCell (by have := HL4.out; show w.heap.size ≤ w4.heap.size; omega) _)
  have hx2 := HX9.out.other (w.heap.size) (by have := HL4.out; omega)
  have hx3 := HX9.out.other (w.heap.size + 1) (by have := HL4.out; omega)
  have hx4 := HX9.out.other (w.heap.size + 1 + 1) (by have := HL4.out; omega)
  have u4 : (w8.setCell ⟨w4.heap.size, 3, none⟩ (.slice qa 0 qc)).cell? ⟨w.heap.size, 4, none⟩ = some (.slice none 0 0) := cell_blk (hx2.trans G2w8.out) rfl
  go_wp2_with fail
  obtain ⟨w9, hw9⟩ : ∃ w9, w9 = w8.setCell ⟨w4.heap.size, 3, none⟩ (.slice qa 0 qc) := ⟨_, rfl⟩
  have HW9 := Lib.hid hw9
  have HBN := Lib.hid (show Below w.heap.size w w9 from by rw [hw9]; exact HB9.out)
  have G2w9 := Lib.hid (show w9.heap[w.heap.size]? = some (.cells #[.int .i64 0, .int .i64 0, .int .i64 0, .slice none 0 0, .slice none 0 0, .slice none 0 0] 26 (0, 0)) from by rw [hw9]; exact hx2.trans G2w8.out)
  have G3w9 := Lib.hid (show w9.heap[w.heap.size + 1]? = some (.cells #[.slice none 0 0, .slice none 0 0, .slice (some ⟨g, 0, none⟩) 1 c, .int .i64 0, .int .i64 0, .int .i64 1, .int .i64 1, .int .i64 1] 48 (0, 0)) from by rw [hw9]; exact hx3.trans G3w8.out)
  have G4w9 := Lib.hid (show w9.heap[w.heap.size + 1 + 1]? = some (.cells #[.int .i64 0, .int .i64 0, .int .i64 0, .slice none 0 0, .slice none 0 0, .slice none 0 0] 26 (0, 0)) from by rw [hw9]; exact hx4.trans G4w8.out)
  have HG9 := Lib.hid (show w9.heap[w4.heap.size]? = some (.cells #[.int .i64 1, .int .i64 0, .int .i64 0, .slice qa 0 qc, .slice none 0 0, .slice none 0 0] 26 (0, 0)) from by rw [hw9]; exact HX9.out.row)
  clear hw9 hx2 hx3 hx4 u4 n3 f3
  rw [← HW9.out]
  refine (clone_nilM w9).mono ?_
  rintro e w9' ⟨rfl, h99⟩
  obtain rfl : w9' = w9 := h99
  have n4 : w9'.cell? ⟨w4.heap.size, 4, none⟩ = some (.slice none 0 0) := cell_blk HG9.out rfl
  have f4 : w9'.frozen? ⟨w4.heap.size, 4, none⟩ = false := fro_blk HG9.out 4
  have HX10 := Lib.hid (cells_set HG9.out 4 (.slice none 0 0))
  have hx3 := HX10.out.other (w.heap.size + 1) (by have := HL4.out; omega)
  have v2 : (w9'.setCell ⟨w4.heap.size, 4, none⟩ (.slice none 0 0)).cell? ⟨w.heap.size + 1, 2, none⟩ = some (.slice (some ⟨g, 0, none⟩) 1 c) := cell_blk (hx3.trans G3w9.out) rfl
  have HC10 := Lib.hid (HBN.out.setCell (p := ⟨w4.heap.size, 4, none⟩) (by have := HL4.out; show w.heap.size ≤ w4.heap.size; omega) (.slice none 0 0))
  clear hx3
  go_wp2_with fail
  obtain ⟨w10, hw10⟩ : ∃ w10, w10 = w9'.setCell ⟨w4.heap.size, 4, none⟩ (.slice none 0 0) := ⟨_, rfl⟩
  have HW10 := Lib.hid hw10
  have HBT0 := Lib.hid (show Below w.heap.size w w10 from by rw [hw10]; exact HC10.out)
  have G2w10 := Lib.hid (show w10.heap[w.heap.size]? = some (.cells #[.int .i64 0, .int .i64 0, .int .i64 0, .slice none 0 0, .slice none 0 0, .slice none 0 0] 26 (0, 0)) from by rw [hw10]; exact (HX10.out.other _ (by have := HL4.out; omega)).trans G2w9.out)
  have G3w10 := Lib.hid (show w10.heap[w.heap.size + 1]? = some (.cells #[.slice none 0 0, .slice none 0 0, .slice (some ⟨g, 0, none⟩) 1 c, .int .i64 0, .int .i64 0, .int .i64 1, .int .i64 1, .int .i64 1] 48 (0, 0)) from by rw [hw10]; exact (HX10.out.other _ (by have := HL4.out; omega)).trans G3w9.out)
  have G4w10 := Lib.hid (show w10.heap[w.heap.size + 1 + 1]? = some (.cells #[.int .i64 0, .int .i64 0, .int .i64 0, .slice none 0 0, .slice none 0 0, .slice none 0 0] 26 (0, 0)) from by rw [hw10]; exact (HX10.out.other _ (by have := HL4.out; omega)).trans G4w9.out)
  have hg10 : w10.heap[w4.heap.size]? = some (.cells #[.int .i64 1, .int .i64 0, .int .i64 0, .slice qa 0 qc, .slice none 0 0, .slice none 0 0] 26 (0, 0)) := by rw [hw10]; exact HX10.out.row
  have HG10 := Lib.hid hg10
  obtain ⟨sb, so, hsb, hsl, _, hsc9⟩ := (HH.out.kept HBT0.out).get (show 0 < 1 by omega)
  obtain ⟨rfl, rfl, _⟩ := hsb
  have d0 : w10.cell? ⟨g, 0, none⟩ = some (.int .i64 1) := by simpa using hsc9 0 _ rfl
  have d1 : w10.cell? ⟨g, 0 + 1, none⟩ = some (.int .i64 5) := by simpa using hsc9 1 _ rfl
  have n5 : w10.cell? ⟨w4.heap.size, 4, none⟩ = some (.slice none 0 0) := cell_blk hg10 rfl
  have hl10 : w4.heap.size < w10.heap.size := (Array.getElem?_eq_some_iff.1 hg10).1
  have HL10 := Lib.hid hl10
  clear hw10 hg10 hsc9 hsl v2 n4 f4
  rw [← HW10.out]
  refine wp_loop_rounds 2 ?_
  rw [rounds_succ]
  go_wp2_with fail
  refine (put_nilM 1 5 _ _).mono ?_
  rintro e w11 ⟨g1, c1, rfl, hge, hv, hb11⟩
  have hb11' : Below w10.heap.size w10 w11 := ((Below.refl _ _).alloc (Nat.le_refl _) _).trans (hb11.mono (by simp))
  have HB11 := Lib.hid (HBT0.out.trans (hb11'.mono HBT0.out.size))
  have G2w11 := Lib.hid ((hb11'.block (w.heap.size) (Array.getElem?_eq_some_iff.1 G2w10.out).1).trans G2w10.out)
  have G3w11 := Lib.hid ((hb11'.block (w.heap.size + 1) (Array.getElem?_eq_some_iff.1 G3w10.out).1).trans G3w10.out)
  have G4w11 := Lib.hid ((hb11'.block (w.heap.size + 1 + 1) (Array.getElem?_eq_some_iff.1 G4w10.out).1).trans G4w10.out)
  have HG11 := Lib.hid ((hb11'.block w4.heap.size (Array.getElem?_eq_some_iff.1 HG10.out).1).trans HG10.out)
  have HGE := Lib.hid (show w4.heap.size < g1 from by have := HL10.out; simp at hge; omega)
  have HV11 := Lib.hid hv
  have n6 : w11.cell? ⟨w4.heap.size, 4, none⟩ = some (.slice none 0 0) := cell_blk HG11.out rfl
  have f6 : w11.frozen? ⟨w4.heap.size, 4, none⟩ = false := fro_blk HG11.out 4
  clear hge hv hb11 hb11' d0 d1 n5 hl10
  go_wp2_with fail
  rw [rounds_succ]
  go_wp2_with fail
  obtain ⟨w12, hw12⟩ : ∃ w12, w12 = w11.setCell ⟨w4.heap.size, 4, none⟩ (.slice (some ⟨g1, 0, none⟩) 1 c1) := ⟨_, rfl⟩
  have HX12 := Lib.hid (cells_set HG11.out 4 (.slice (some ⟨g1, 0, none⟩) 1 c1))
  have HW12 := Lib.hid hw12
  have HB12 := Lib.hid (show Below w.heap.size w w12 from by rw [hw12]; exact HB11.out.setCell (p := ⟨w4.heap.size, 4, none⟩) (by have := HL4.out; show w.heap.size ≤ w4.heap.size; omega) _)
  have G2w12 := Lib.hid (show w12.heap[w.heap.size]? = some (.cells #[.int .i64 0, .int .i64 0, .int .i64 0, .slice none 0 0, .slice none 0 0, .slice none 0 0] 26 (0, 0)) from by rw [hw12]; exact (HX12.out.other _ (by have := HL4.out; omega)).trans G2w11.out)
  have G3w12 := Lib.hid (show w12.heap[w.heap.size + 1]? = some (.cells #[.slice none 0 0, .slice none 0 0, .slice (some ⟨g, 0, none⟩) 1 c, .int .i64 0, .int .i64 0, .int .i64 1, .int .i64 1, .int .i64 1] 48 (0, 0)) from by rw [hw12]; exact (HX12.out.other _ (by have := HL4.out; omega)).trans G3w11.out)
  have G4w12 := Lib.hid (show w12.heap[w.heap.size + 1 + 1]? = some (.cells #[.int .i64 0, .int .i64 0, .int .i64 0, .slice none 0 0, .slice none 0 0, .slice none 0 0] 26 (0, 0)) from by rw [hw12]; exact (HX12.out.other _ (by have := HL4.out; omega)).trans G4w11.out)
  have HG12 := Lib.hid (show w12.heap[w4.heap.size]? = some (.cells #[.int .i64 1, .int .i64 0, .int .i64 0, .slice qa 0 qc, .slice (some ⟨g1, 0, none⟩) 1 c1, .slice none 0 0] 26 (0, 0)) from by rw [hw12]; exact HX12.out.row)
  have HV12 := Lib.hid (show VecAt MarkS w12 (some ⟨g1, 0, none⟩) 1 c1 [(1, 5)] from by rw [hw12]; exact vec_set HV11.out (fun _ h => h) (fun b off s e => by cases e; have := HGE.out; omega))
  have HJ0 := Lib.hid (show JpA w w12 w4.heap.size (.slice qa 0 qc) (.slice (some ⟨g1, 0, none⟩) 1 c1) w12 from ⟨HB12.out, Nat.le_refl _, fun _ _ _ => rfl, _, HG12.out⟩)
  clear hw12 n6 f6
  rw [← HW12.out]
  refine wp_region_fill (by kernel_rfl) (by kernel_rfl) (by kernel_rfl) (JpA w w12 w4.heap.size (.slice qa 0 qc) (.slice (some ⟨g1, 0, none⟩) 1 c1)) (FV2 (fun j_9 => match j_9 with | 0 => some (.pointer (some ⟨w.heap.size, 5, none⟩)) | 1 => some (.slice none 0 0) | 2 => some (.slice none 0 0) | 3 => some (.pointer (some ⟨w.heap.size + 1, 5, none⟩)) | 4 => some (.agg #[.int .i64 1, .int .i64 1, .int .i64 1]) | 5 => none | 6 => some (.pointer (some ⟨w4.heap.size, 5, none⟩)) | 7 => none | _ => none) (SpA w4.heap.size (.slice qa 0 qc) (.slice (some ⟨g1, 0, none⟩) 1 c1))) HJ0.out.drew ?_ ?_
  · intro i9 o ho V w9 K hJ hdep hK
    have HJ := Lib.hid hJ
    simp only [fill, slotOf, List.size_toArray, List.length_cons, List.length_nil, Nat.reduceAdd, List.getElem?_toArray, List.getElem?_cons_zero, List.getElem?_cons_succ, Option.bind_some, Act.put, List.setIfInBounds_toArray, List.set_cons_zero, List.set_cons_succ] at hK ⊢
    have hin : i9 < 8 := (Array.getElem?_eq_some_iff.1 ho).1
    have hcs : i9 = 0 ∨ i9 = 1 ∨ i9 = 2 ∨ i9 = 3 ∨ i9 = 4 ∨ i9 = 5 ∨ i9 = 6 ∨ i9 = 7 := by omega
    clear hin
    rcases hcs with rfl | rfl | rfl | rfl | rfl | rfl | rfl | rfl
    · obtain rfl := Option.some.inj ho.symm
      clear hdep ho hJ
      try simp only [fill, slotOf, List.size_toArray, List.length_cons, List.length_nil, Nat.reduceAdd, List.getElem?_toArray, List.getElem?_cons_zero, List.getElem?_cons_succ, Option.bind_some, Act.put, List.setIfInBounds_toArray, List.set_cons_zero, List.set_cons_succ] at hK ⊢
      go_simp
      exact hK (.pointer (some ⟨w.heap.size, 5, none⟩)) _ HJ.out rfl (fun j y h => h) _ rfl
    · obtain rfl := Option.some.inj ho.symm
      have d0 : V 0 = .pointer (some ⟨w.heap.size, 5, none⟩) := hdep ⟨0, .data⟩ (by simp) rfl
      have a5 : w9.cell? ⟨w.heap.size, 5, none⟩ = some (.slice none 0 0) := cell_blk ((hJ.old (w.heap.size) (Array.getElem?_eq_some_iff.1 G2w12.out).1 (by have := HL4.out; omega)).trans G2w12.out) rfl
      clear hdep ho hJ
      try simp only [fill, slotOf, List.size_toArray, List.length_cons, List.length_nil, Nat.reduceAdd, List.getElem?_toArray, List.getElem?_cons_zero, List.getElem?_cons_succ, Option.bind_some, Act.put, List.setIfInBounds_toArray, List.set_cons_zero, List.set_cons_succ] at hK ⊢
      rw [d0] at hK ⊢
      go_simp
      exact hK (.slice none 0 0) _ HJ.out rfl (fun j y h => h) _ rfl
    · obtain rfl := Option.some.inj ho.symm
      have d1 : V 1 = .slice none 0 0 := hdep ⟨1, .data⟩ (by simp) rfl
      clear hdep ho hJ
      try simp only [fill, slotOf, List.size_toArray, List.length_cons, List.length_nil, Nat.reduceAdd, List.getElem?_toArray, List.getElem?_cons_zero, List.getElem?_cons_succ, Option.bind_some, Act.put, List.setIfInBounds_toArray, List.set_cons_zero, List.set_cons_succ] at hK ⊢
      rw [d1] at hK ⊢
      go_simp
      refine (clone_nilO' w9).mono ?_
      rintro e w8 ⟨rfl, hb8⟩
      exact hK (.slice none 0 0) _ (HJ.out.trans hb8) rfl (FV2.mono (SpA.mono HJ.out.lt hb8)) _ rfl
    · obtain rfl := Option.some.inj ho.symm
      clear hdep ho hJ
      try simp only [fill, slotOf, List.size_toArray, List.length_cons, List.length_nil, Nat.reduceAdd, List.getElem?_toArray, List.getElem?_cons_zero, List.getElem?_cons_succ, Option.bind_some, Act.put, List.setIfInBounds_toArray, List.set_cons_zero, List.set_cons_succ] at hK ⊢
      go_simp
      exact hK (.pointer (some ⟨w.heap.size + 1, 5, none⟩)) _ HJ.out rfl (fun j y h => h) _ rfl
    · obtain rfl := Option.some.inj ho.symm
      have d3 : V 3 = .pointer (some ⟨w.heap.size + 1, 5, none⟩) := hdep ⟨3, .data⟩ (by simp) rfl
      have e5 : w9.cell? ⟨w.heap.size + 1, 5, none⟩ = some (.int .i64 1) := cell_blk ((hJ.old (w.heap.size + 1) (Array.getElem?_eq_some_iff.1 G3w12.out).1 (by have := HL4.out; omega)).trans G3w12.out) rfl
      have e6 : w9.cell? ⟨w.heap.size + 1, 6, none⟩ = some (.int .i64 1) := cell_blk ((hJ.old (w.heap.size + 1) (Array.getElem?_eq_some_iff.1 G3w12.out).1 (by have := HL4.out; omega)).trans G3w12.out) rfl
      have e7 : w9.cell? ⟨w.heap.size + 1, 7, none⟩ = some (.int .i64 1) := cell_blk ((hJ.old (w.heap.size + 1) (Array.getElem?_eq_some_iff.1 G3w12.out).1 (by have := HL4.out; omega)).trans G3w12.out) rfl
      clear hdep ho hJ
      try simp only [fill, slotOf, List.size_toArray, List.length_cons, List.length_nil, Nat.reduceAdd, List.getElem?_toArray, List.getElem?_cons_zero, List.getElem?_cons_succ, Option.bind_some, Act.put, List.setIfInBounds_toArray, List.set_cons_zero, List.set_cons_succ] at hK ⊢
      rw [d3] at hK ⊢
      go_simp
      exact hK (.agg #[.int .i64 1, .int .i64 1, .int .i64 1]) _ HJ.out rfl (fun j y h => h) _ rfl
    · obtain rfl := Option.some.inj ho.symm
      have d2 : V 2 = .slice none 0 0 := hdep ⟨2, .data⟩ (by simp) rfl
      have d4 : V 4 = .agg #[.int .i64 1, .int .i64 1, .int .i64 1] := hdep ⟨4, .data⟩ (by simp) rfl
      clear hdep ho hJ
      try simp only [fill, slotOf, List.size_toArray, List.length_cons, List.length_nil, Nat.reduceAdd, List.getElem?_toArray, List.getElem?_cons_zero, List.getElem?_cons_succ, Option.bind_some, Act.put, List.setIfInBounds_toArray, List.set_cons_zero, List.set_cons_succ] at hK ⊢
      rw [d2, d4] at hK ⊢
      go_simp
      refine (put_nilO 1 1 1 _ w9).mono ?_
      rintro e w8 ⟨g2, c2, rfl, hge8, hv8, hb8⟩
      exact hK (.slice (some ⟨g2, 0, none⟩) 1 c2) _ (HJ.out.trans hb8) (SpA.at5 (E := .slice qa 0 qc) (M := .slice (some ⟨g1, 0, none⟩) 1 c1) (Nat.lt_of_lt_of_le HJ.out.lt hge8) hv8) (FV2.mono (SpA.mono HJ.out.lt hb8)) _ rfl
    · obtain rfl := Option.some.inj ho.symm
      clear hdep ho hJ
      try simp only [fill, slotOf, List.size_toArray, List.length_cons, List.length_nil, Nat.reduceAdd, List.getElem?_toArray, List.getElem?_cons_zero, List.getElem?_cons_succ, Option.bind_some, Act.put, List.setIfInBounds_toArray, List.set_cons_zero, List.set_cons_succ] at hK ⊢
      go_simp
      exact hK (.pointer (some ⟨w4.heap.size, 5, none⟩)) _ HJ.out rfl (fun j y h => h) _ rfl
    · have hoo := Option.some.inj ho.symm
      obtain ⟨g2, c2, eV5, hg2, hv2⟩ : ∃ g2 c2, V 5 = .slice (some ⟨g2, 0, none⟩) 1 c2 ∧ w4.heap.size < g2 ∧ VecAt OwnS w9 (some ⟨g2, 0, none⟩) 1 c2 [(1, 1, 1)] := hdep ⟨5, .data⟩ (by rw [hoo]; simp) rfl
      subst hoo
      have d6 : V 6 = .pointer (some ⟨w4.heap.size, 5, none⟩) := hdep ⟨6, .data⟩ (by simp) rfl
      have HV5 := Lib.hid hv2
      obtain ⟨x9, hx9⟩ := hJ.row
      have HX5 := Lib.hid hx9
      have c5 : w9.cell? ⟨w4.heap.size, 5, none⟩ = some x9 := cell_blk hx9 rfl
      have fz5 : w9.frozen? ⟨w4.heap.size, 5, none⟩ = false := fro_blk hx9 5
      clear hdep ho hJ hv2 hx9
      try simp only [fill, slotOf, List.size_toArray, List.length_cons, List.length_nil, Nat.reduceAdd, List.getElem?_toArray, List.getElem?_cons_zero, List.getElem?_cons_succ, Option.bind_some, Act.put, List.setIfInBounds_toArray, List.set_cons_zero, List.set_cons_succ] at hK ⊢
      rw [d6, eV5] at hK ⊢
      go_simp
      exact hK undef _ (HJ.out.set (by have := HL4.out; omega) _) (SpA.at7 (u := undef) hg2 HX5.out HV5.out) (FV2.mono (SpA.set hg2 HX5.out HV5.out)) _ rfl
  · intro V w9 hJ hall
    have h7 : ∃ g2 c2, w9.heap[w4.heap.size]? = some (.cells #[.int .i64 1, .int .i64 0, .int .i64 0, .slice qa 0 qc, .slice (some ⟨g1, 0, none⟩) 1 c1, .slice (some ⟨g2, 0, none⟩) 1 c2] 26 (0, 0)) ∧ VecAt OwnS w9 (some ⟨g2, 0, none⟩) 1 c2 [(1, 1, 1)] ∧ w4.heap.size < g2 := hall 7 (by decide)
    have HJ9 := Lib.hid hJ
    clear hall hJ
    simp only [fill, slotOf, List.size_toArray, List.length_cons, List.length_nil, Nat.reduceAdd, List.getElem?_toArray, List.getElem?_cons_zero, List.getElem?_cons_succ, Option.bind_some, Act.put, List.setIfInBounds_toArray, List.set_cons_zero, List.set_cons_succ]
    obtain ⟨g2, c2, hrow, hv2, hg2⟩ := h7
    have HG2 := Lib.hid hg2
    have HRW := Lib.hid hrow
    have HV2 := Lib.hid hv2
    have HM9 := Lib.hid (HV12.out.kept2 HJ9.out HGE.out)
    have HG4 := Lib.hid (show w9.heap[w.heap.size + 1 + 1]? = some (.cells #[.int .i64 0, .int .i64 0, .int .i64 0, .slice none 0 0, .slice none 0 0, .slice none 0 0] 26 (0, 0)) from (HJ9.out.old (w.heap.size + 1 + 1) (Array.getElem?_eq_some_iff.1 G4w12.out).1 (by have := HL4.out; omega)).trans G4w12.out)
    have n0 : w9.cell? ⟨w4.heap.size, 0, none⟩ = some (.int .i64 1) := cell_blk hrow rfl
    have n1 : w9.cell? ⟨w4.heap.size, 1, none⟩ = some (.int .i64 0) := cell_blk hrow rfl
    have n2 : w9.cell? ⟨w4.heap.size, 2, none⟩ = some (.int .i64 0) := cell_blk hrow rfl
    have n3 : w9.cell? ⟨w4.heap.size, 3, none⟩ = some (.slice qa 0 qc) := cell_blk hrow rfl
    have n4 : w9.cell? ⟨w4.heap.size, 4, none⟩ = some (.slice (some ⟨g1, 0, none⟩) 1 c1) := cell_blk hrow rfl
    have n5 : w9.cell? ⟨w4.heap.size, 5, none⟩ = some (.slice (some ⟨g2, 0, none⟩) 1 c2) := cell_blk hrow rfl
    have m0 : w9.cell? ⟨w.heap.size + 1 + 1, 0, none⟩ = some (.int .i64 0) := cell_blk HG4.out rfl
    have m1 : w9.cell? ⟨w.heap.size + 1 + 1, 1, none⟩ = some (.int .i64 0) := cell_blk HG4.out rfl
    have m2 : w9.cell? ⟨w.heap.size + 1 + 1, 2, none⟩ = some (.int .i64 0) := cell_blk HG4.out rfl
    have m3 : w9.cell? ⟨w.heap.size + 1 + 1, 3, none⟩ = some (.slice none 0 0) := cell_blk HG4.out rfl
    have m4 : w9.cell? ⟨w.heap.size + 1 + 1, 4, none⟩ = some (.slice none 0 0) := cell_blk HG4.out rfl
    have m5 : w9.cell? ⟨w.heap.size + 1 + 1, 5, none⟩ = some (.slice none 0 0) := cell_blk HG4.out rfl
    have z0 : w9.frozen? ⟨w.heap.size + 1 + 1, 0, none⟩ = false := fro_blk HG4.out 0
    have z1 : w9.frozen? ⟨w.heap.size + 1 + 1, 1, none⟩ = false := fro_blk HG4.out 1
    have z2 : w9.frozen? ⟨w.heap.size + 1 + 1, 2, none⟩ = false := fro_blk HG4.out 2
    have z3 : w9.frozen? ⟨w.heap.size + 1 + 1, 3, none⟩ = false := fro_blk HG4.out 3
    have z4 : w9.frozen? ⟨w.heap.size + 1 + 1, 4, none⟩ = false := fro_blk HG4.out 4
    have z5 : w9.frozen? ⟨w.heap.size + 1 + 1, 5, none⟩ = false := fro_blk HG4.out 5
    clear hrow hv2 hg2
    go_wp2_with fail
    refine bodyPost_ret (ret_cell_tmp rfl _ _ (w.heap.size + 1 + 1) 26 #[.int .i64 1, .int .i64 0, .int .i64 0, .slice qa 0 qc, .slice (some ⟨g1, 0, none⟩) 1 c1, .slice (some ⟨g2, 0, none⟩) 1 c2] _ _ rfl (set6 HG4.out _ _ _ _ _ _) Tryz.underlying26 rfl (by kernel_rfl)) rfl ?_
    exact ⟨qa, qc, g1, c1, g2, c2, rfl, vec6 HM9.out (fun _ _ _ h => h) (by have := HGE.out; have := HL4.out; omega) _ _ _ _ _ _, vec6 HV2.out (fun _ _ _ h => h) (by have := HG2.out; have := HL4.out; omega) _ _ _ _ _ _, below6 HJ9.out.below (by omega) _ _ _ _ _ _⟩


end Go.Proofs.YtbdgcfimbblncaaGreatDoor
end PkMB2_6
section PkMB2_7
/- Manifests: the document's Twin, walked. Written by genmftw.py. -/
namespace Go.Proofs.YtbdgcfimbblncaaGreatDoor
open Go.RowKit LabPlain
set_option linter.unusedVariables false

theorem info9E : (Tryz.prog.info? 53).map (fun i => (i.zero, i.size, i.bytes)) = some (some (.agg #[.string ByteArray.empty, .int .i64 0, .string ByteArray.empty, .int .i64 0, .int .i64 0, .int .i64 0, .int .i64 0, .int .u32 0, .int .i64 0]), 9, 88) := by kernel_rfl
theorem info9M : (Tryz.prog.info? 43).map (fun i => (i.zero, i.size, i.bytes)) = some (some (.agg #[.int .i64 0, .int .i64 0]), 2, 16) := by kernel_rfl
theorem info9O : (Tryz.prog.info? 45).map (fun i => (i.zero, i.size, i.bytes)) = some (some (.agg #[.int .i64 0, .int .i64 0, .int .i64 0]), 3, 24) := by kernel_rfl
theorem own_addr {base n k : Nat} {w : World} {e : TypeId} {xs : List Value} {a : Option Addr} {c : Nat} (h : w.ownsRow base e k (.slice a n c) n xs) : ∀ b off s, a = some ⟨b, off, s⟩ → base ≤ b := by
  intro b off s e2
  rcases h.2 with ⟨e1, _⟩ | ⟨g, cap, cu, e1, hg, _⟩
  · cases e1; cases e2
  · cases e1; cases e2; exact hg
theorem own_slice9 {base n : Nat} {w : World} {e : TypeId} {k : Nat} {v : Value} {xs : List Value} (ho : w.ownsRow base e k v n xs) : ∃ a c, v = .slice a n c := by
  rcases ho.2 with ⟨rfl, h0⟩ | ⟨g, cap, cu, rfl, _⟩
  · exact ⟨none, 0, by rw [h0]⟩
  · exact ⟨_, _, rfl⟩

theorem wpList_append9E {w : World} {ops : Array Oper} {rest : List Oper} {o : Oper} {a : Act} {Q : Exit → Act → World → Prop} (hgd : o.guard = none) (s x : Operand)
    (ho : o.op = .call { callee := .builtin .append, args := #[s, x], argTypes := #[22, 22] })
    (base : Nat) (v : Value) (n : Nat) (xs : List EntV) (hs : a.eval s = v) (hown : w.ownsRow base 53 9 v n (EntS.flat xs))
    (src : Option Addr) (m c : Nat) (ys : List EntV) (hx : a.eval x = .slice src m c) (hb : VecAt EntS w src m c ys)
    (h63 : (n + m) * 88 ≤ 140737488355328) (hbase : base ≤ w.heap.size)
    (h : ∀ v' w', w'.ownsRow base 53 9 v' (n + m) (EntS.flat (xs ++ ys)) → w.grownBy w' v.ownBlock → wpList Tryz.prog ops Q rest (a.put o.dst v') w') : wpList Tryz.prog ops Q (o :: rest) a w := by
  obtain ⟨i0, hi, hz0, hz1, hz2⟩ := info_parts info9E
  have happ : EntS.flat (xs ++ ys) = EntS.flat xs ++ EntS.flat ys := by unfold Sty.flat; rw [List.flatMap_append]
  rcases src with _ | ad
  · have hc := hb.nl rfl
    have hm : m = 0 := by have := hb.cap; omega
    subst hm
    subst hc
    have hy : ys = [] := List.eq_nil_of_length_eq_zero hb.len
    subst hy
    refine wpList_append_own_none hgd s x 22 ho base 53 i0 9 Tryz.underlying22 hi v n (EntS.flat xs) hs hown hx ?_
    exact h v w (by simpa using hown) (World.grownBy.refl _ _)
  · refine wpList_append_own_at w hgd s x 22 ho base 53 i0 _ 9 88 Tryz.underlying22 hi hz0 hz1 hz2 rfl (by decide) v n (EntS.flat xs) hs hown ad m c (EntS.flat ys) hx (by rw [Sty.flat_len, hb.len]; rfl) hb.src (Sty.flat_one _ _) (by unfold maxLen; omega) h63 hbase ?_
    intro v' w' h1 h2 _ _
    exact h v' w' (by rw [happ]; exact h1) h2

theorem wpList_append9M {w : World} {ops : Array Oper} {rest : List Oper} {o : Oper} {a : Act} {Q : Exit → Act → World → Prop} (hgd : o.guard = none) (s x : Operand)
    (ho : o.op = .call { callee := .builtin .append, args := #[s, x], argTypes := #[23, 23] })
    (base : Nat) (v : Value) (n : Nat) (xs : List (Int × Int)) (hs : a.eval s = v) (hown : w.ownsRow base 43 2 v n (MarkS.flat xs))
    (src : Option Addr) (m c : Nat) (ys : List (Int × Int)) (hx : a.eval x = .slice src m c) (hb : VecAt MarkS w src m c ys)
    (h63 : (n + m) * 16 ≤ 140737488355328) (hbase : base ≤ w.heap.size)
    (h : ∀ v' w', w'.ownsRow base 43 2 v' (n + m) (MarkS.flat (xs ++ ys)) → w.grownBy w' v.ownBlock → wpList Tryz.prog ops Q rest (a.put o.dst v') w') : wpList Tryz.prog ops Q (o :: rest) a w := by
  obtain ⟨i0, hi, hz0, hz1, hz2⟩ := info_parts info9M
  have happ : MarkS.flat (xs ++ ys) = MarkS.flat xs ++ MarkS.flat ys := by unfold Sty.flat; rw [List.flatMap_append]
  rcases src with _ | ad
  · have hc := hb.nl rfl
    have hm : m = 0 := by have := hb.cap; omega
    subst hm
    subst hc
    have hy : ys = [] := List.eq_nil_of_length_eq_zero hb.len
    subst hy
    refine wpList_append_own_none hgd s x 23 ho base 43 i0 2 Tryz.underlying23 hi v n (MarkS.flat xs) hs hown hx ?_
    exact h v w (by simpa using hown) (World.grownBy.refl _ _)
  · refine wpList_append_own_at w hgd s x 23 ho base 43 i0 _ 2 16 Tryz.underlying23 hi hz0 hz1 hz2 rfl (by decide) v n (MarkS.flat xs) hs hown ad m c (MarkS.flat ys) hx (by rw [Sty.flat_len, hb.len]; rfl) hb.src (Sty.flat_one _ _) (by unfold maxLen; omega) h63 hbase ?_
    intro v' w' h1 h2 _ _
    exact h v' w' (by rw [happ]; exact h1) h2

theorem wpList_append9O {w : World} {ops : Array Oper} {rest : List Oper} {o : Oper} {a : Act} {Q : Exit → Act → World → Prop} (hgd : o.guard = none) (s x : Operand)
    (ho : o.op = .call { callee := .builtin .append, args := #[s, x], argTypes := #[24, 24] })
    (base : Nat) (v : Value) (n : Nat) (xs : List (Int × Int × Int)) (hs : a.eval s = v) (hown : w.ownsRow base 45 3 v n (OwnS.flat xs))
    (src : Option Addr) (m c : Nat) (ys : List (Int × Int × Int)) (hx : a.eval x = .slice src m c) (hb : VecAt OwnS w src m c ys)
    (h63 : (n + m) * 24 ≤ 140737488355328) (hbase : base ≤ w.heap.size)
    (h : ∀ v' w', w'.ownsRow base 45 3 v' (n + m) (OwnS.flat (xs ++ ys)) → w.grownBy w' v.ownBlock → wpList Tryz.prog ops Q rest (a.put o.dst v') w') : wpList Tryz.prog ops Q (o :: rest) a w := by
  obtain ⟨i0, hi, hz0, hz1, hz2⟩ := info_parts info9O
  have happ : OwnS.flat (xs ++ ys) = OwnS.flat xs ++ OwnS.flat ys := by unfold Sty.flat; rw [List.flatMap_append]
  rcases src with _ | ad
  · have hc := hb.nl rfl
    have hm : m = 0 := by have := hb.cap; omega
    subst hm
    subst hc
    have hy : ys = [] := List.eq_nil_of_length_eq_zero hb.len
    subst hy
    refine wpList_append_own_none hgd s x 24 ho base 45 i0 3 Tryz.underlying24 hi v n (OwnS.flat xs) hs hown hx ?_
    exact h v w (by simpa using hown) (World.grownBy.refl _ _)
  · refine wpList_append_own_at w hgd s x 24 ho base 45 i0 _ 3 24 Tryz.underlying24 hi hz0 hz1 hz2 rfl (by decide) v n (OwnS.flat xs) hs hown ad m c (OwnS.flat ys) hx (by rw [Sty.flat_len, hb.len]; rfl) hb.src (Sty.flat_one _ _) (by unfold maxLen; omega) h63 hbase ?_
    intro v' w' h1 h2 _ _
    exact h v' w' (by rw [happ]; exact h1) h2

theorem vec6o {α : Type} {S : Sty α} {v : World} {R : Nat} {a : Option Addr} {n c : Nat} {l : List α} (h : VecAt S v a n c l) (hok : ∀ (w w' : World) x, S.ok w x → S.ok w' x) (hn : ∀ b off s, a = some ⟨b, off, s⟩ → b ≠ R) (x0 x1 x2 x3 x4 x5 : Value) : VecAt S ((((((v.setCell ⟨R, 0, none⟩ x0).setCell ⟨R, 1, none⟩ x1).setCell ⟨R, 2, none⟩ x2).setCell ⟨R, 3, none⟩ x3).setCell ⟨R, 4, none⟩ x4).setCell ⟨R, 5, none⟩ x5) a n c l :=
  vec_set (vec_set (vec_set (vec_set (vec_set (vec_set h (hok _ _) hn) (hok _ _) hn) (hok _ _) hn) (hok _ _) hn) (hok _ _) hn) (hok _ _) hn
/-- but for one block, what was there is as it was -/
structure Ob (B : Nat) (w w' : World) : Prop where
  size : w.heap.size ≤ w'.heap.size
  old : ∀ k, k < w.heap.size → k ≠ B → w'.heap[k]? = w.heap[k]?
theorem Ob.trans {B : Nat} {w w1 w2 : World} (h : Ob B w w1) (k : Ob B w1 w2) : Ob B w w2 := ⟨Nat.le_trans h.size k.size, fun i hi hn => (k.old i (Nat.lt_of_lt_of_le hi h.size) hn).trans (h.old i hi hn)⟩
theorem Ob.set {B i : Nat} {w : World} {cur : Array Value} {t : TypeId} (g : w.heap[B]? = some (.cells cur t (0, 0))) (u : Value) : Ob B w (w.setCell ⟨B, i, none⟩ u) := ⟨by simp, fun k _ hk => (cells_set g i u).other k hk⟩
theorem VecAt.ob {α : Type} {S : Sty α} {w w' : World} {a : Option Addr} {n c B : Nat} {l : List α} (h : VecAt S w a n c l) (hj : Ob B w w') (hok : ∀ x, S.ok w x → S.ok w' x) (hne : ∀ b off s, a = some ⟨b, off, s⟩ → b ≠ B) : VecAt S w' a n c l :=
  ⟨h.len, h.cap, h.capm, h.nl, fun x hx => hok x (h.all x hx), fun hn => by
    obtain ⟨b, off, ha, hlt, hc⟩ := h.cells hn
    have hb : w'.heap[b]? = w.heap[b]? := hj.old b hlt (hne b off none ha)
    exact ⟨b, off, ha, Nat.lt_of_lt_of_le hlt hj.size, fun i hi j v hv => (World.cell?_of_block (w := w) (a := ⟨b, _, none⟩) hb).trans (hc i hi j v hv)⟩⟩
/-- an empty row made, appended to: what was there is as it was; the row lies above -/
theorem step_row {w w1 w2 : World} {T : TypeId} (B : Nat) (h1 : w1 = w.alloc (.cells #[] T)) (hg : w1.grownBy w2 (Value.slice (some ⟨w.heap.size, 0, none⟩) 0 0).ownBlock) : Ob B w w2 ∧ (∀ k, k < w.heap.size → w2.heap[k]? = w.heap[k]?) ∧ (∀ w0, Below w0.heap.size w0 w → Below w0.heap.size w0 w2) := by
  have hs : w1.heap.size = w.heap.size + 1 := by rw [h1]; exact Array.size_push _
  have hk : ∀ k, k < w.heap.size → w2.heap[k]? = w.heap[k]? := fun k hk => (hg.block k (by omega) (by simp [Value.ownBlock]; omega)).trans (by rw [h1]; exact hao9 _ _ _ hk)
  refine ⟨⟨by have := hg.size; omega, fun k h _ => hk k h⟩, hk, fun w0 hb => ?_⟩
  have hb1 : Below w0.heap.size w0 w1 := by rw [h1]; exact hb.alloc hb.size _
  exact hb1.grown hg hb1.size (fun k e => by simp [Value.ownBlock] at e; have := hb.size; omega)

set_option maxRecDepth 100000 in
set_option maxHeartbeats 8000000 in
theorem rtwin13_any {w : World} {s d hz : Int} {ea ma oa : Option Addr} {en ec mn mc on oc : Nat} {le : List EntV} {lm : List (Int × Int)} {lo : List (Int × Int × Int)} (hE : VecAt EntS w ea en ec le) (hM : VecAt MarkS w ma mn mc lm) (hO : VecAt OwnS w oa on oc lo) (hen : en ≤ 1000) (hmn : mn ≤ 1000) (hon : on ≤ 1000) :
    Calls Tryz.prog 8 #[.agg #[.int .i64 s, .int .i64 d, .int .i64 hz, .slice ea en ec, .slice ma mn mc, .slice oa on oc]] w fun e w' => ∃ ea' ec' ma' mc' oa' oc', e = .returned (.agg #[.int .i64 s, .int .i64 d, .int .i64 hz, .slice ea' en ec', .slice ma' mn mc', .slice oa' on oc']) ∧ VecAt EntS w' ea' en ec' le ∧ VecAt MarkS w' ma' mn mc' lm ∧ VecAt OwnS w' oa' on oc' lo ∧ Below w.heap.size w w' := by
  have h63 : en * 88 ≤ 140737488355328 ∧ mn * 16 ≤ 140737488355328 ∧ on * 24 ≤ 140737488355328 := by omega
  obtain ⟨wa, hwa⟩ : ∃ wa, wa = w.alloc (.cells #[.int .i64 s, .int .i64 d, .int .i64 hz, .slice ea en ec, .slice ma mn mc, .slice oa on oc] 26) := ⟨_, rfl⟩
  obtain ⟨w0, hw0⟩ : ∃ w0, w0 = wa.alloc (.cells #[.int .i64 0, .int .i64 0, .int .i64 0, .slice none 0 0, .slice none 0 0, .slice none 0 0] 26) := ⟨_, rfl⟩
  have sa : wa.heap.size = w.heap.size + 1 := by rw [hwa]; exact Array.size_push _
  have s0 : w0.heap.size = w.heap.size + 1 + 1 := by rw [hw0]; show (wa.heap.push _).size = _; rw [Array.size_push, sa]
  have b0 : Below w.heap.size w w0 := by
    have ba : Below w.heap.size w wa := by rw [hwa]; exact (Below.refl _ _).alloc (Nat.le_refl _) _
    rw [hw0]; exact ba.alloc ba.size _
  have g0 : w0.heap[w.heap.size]? = some (.cells #[.int .i64 s, .int .i64 d, .int .i64 hz, .slice ea en ec, .slice ma mn mc, .slice oa on oc] 26 (0, 0)) := by rw [hw0, hao9 _ _ _ (by omega), hwa]; exact heap_alloc_new _ _
  have r0 : w0.heap[w.heap.size + 1]? = some (.cells #[.int .i64 0, .int .i64 0, .int .i64 0, .slice none 0 0, .slice none 0 0, .slice none 0 0] 26 (0, 0)) := by rw [hw0, ← sa]; exact heap_alloc_new _ _
  have HM := Lib.hid hM
  have HO := Lib.hid hO
  have HE := Lib.hid hE
  have H63 := Lib.hid h63
  have HLW := Lib.hid (show w.heap.size < w0.heap.size ∧ w.heap.size + 1 < w0.heap.size from by omega)

  have hown1 := World.ownsRow_lit (base := w0.heap.size) (e := 53) (size := 9) w0 #[] 0 (Nat.le_refl _) (by unfold maxLen; omega) rfl
  have hve1 := (HE.out.kept (b0.alloc b0.size (.cells #[] 53)))
  have hsd1 : w0.heap.size ≤ (w0.alloc (.cells #[] 53)).heap.size := ((Below.refl w0.heap.size w0).alloc (Nat.le_refl _) _).size
  have a1 : w0.cell? ⟨w.heap.size, 3, none⟩ = some (.slice ea en ec) := cell_blk g0 rfl
  have t1 : w0.frozen? ⟨w.heap.size, 3, none⟩ = false := fro_blk g0 3
  have G1 := Lib.hid g0
  have R1 := Lib.hid r0
  have B1 := Lib.hid b0
  have SZ1 := Lib.hid s0
  rw [s0] at hown1 hsd1
  rw [hw0, hwa] at hown1 hve1 hsd1 a1 t1
  have HWE1 := Lib.hid (show ((w.alloc (.cells #[.int .i64 s, .int .i64 d, .int .i64 hz, .slice ea en ec, .slice ma mn mc, .slice oa on oc] 26)).alloc (.cells #[.int .i64 0, .int .i64 0, .int .i64 0, .slice none 0 0, .slice none 0 0, .slice none 0 0] 26)) = w0 from by rw [hw0, hwa])
  have HOW1 := Lib.hid hown1
  have HVE1 := Lib.hid hve1
  have HSD1 := Lib.hid hsd1
  clear hwa hw0 sa s0 b0 g0 r0 hown1 hve1 hsd1 hE hM hO h63
  go_enter Tryz.func8, Tryz.ntmps8
  go_wp2_with (at_builtin; refine wpList_append9E rfl (.tmp 3) (.tmp 5) rfl (w.heap.size + 1 + 1) _ 0 [] rfl HOW1.out _ _ _ _ rfl HVE1.out (by have := H63.out.1; omega) HSD1.out ?_)
  intro v1 q1 ho1 hg1
  try simp only [List.nil_append, Nat.zero_add] at ho1
  rw [HWE1.out] at hg1
  rw [← SZ1.out] at hg1
  obtain ⟨ob1, hk1, hbb1⟩ := step_row w.heap.size rfl hg1
  have gq1 := (hk1 w.heap.size (Array.getElem?_eq_some_iff.1 G1.out).1).trans G1.out
  have rq1 := (hk1 (w.heap.size + 1) (Array.getElem?_eq_some_iff.1 R1.out).1).trans R1.out
  have bq1 : Below w.heap.size w q1 := hbb1 w B1.out
  obtain ⟨e1, c1, rfl⟩ := own_slice9 ho1
  have hne1 := own_addr ho1
  have hv1 := VecAt.ofOwn (S := EntS) ho1 HE.out.len (fun x hx => EntS.mono bq1 (HE.out.all x hx))
  obtain ⟨w1, hw1x⟩ : ∃ w1, w1 = q1.setCell ⟨w.heap.size, 3, none⟩ (.slice e1 en c1) := ⟨_, rfl⟩
  have g1 : w1.heap[w.heap.size]? = some (.cells #[.int .i64 s, .int .i64 d, .int .i64 hz, .slice e1 en c1, .slice ma mn mc, .slice oa on oc] 26 (0, 0)) := by rw [hw1x]; exact heap_set gq1 3 _
  have r1 : w1.heap[w.heap.size + 1]? = some (.cells #[.int .i64 0, .int .i64 0, .int .i64 0, .slice none 0 0, .slice none 0 0, .slice none 0 0] 26 (0, 0)) := by rw [hw1x]; exact ((cells_set gq1 3 _).other (w.heap.size + 1) (by omega)).trans rq1
  have b1 : Below w.heap.size w w1 := by rw [hw1x]; exact bq1.setCell (p := ⟨w.heap.size, 3, none⟩) (Nat.le_refl _) _
  have s1 : w1.heap.size = q1.heap.size := by rw [hw1x]; simp
  have os1 : Ob w.heap.size q1 w1 := by rw [hw1x]; exact Ob.set gq1 _
  have hsz1 : w.heap.size + 1 < w.heap.size + 1 + 1 ∧ w.heap.size + 1 + 1 ≤ q1.heap.size := ⟨by omega, by have := ob1.size; have h2 := SZ1.out; omega⟩
  have hl1 : w.heap.size < q1.heap.size := by omega
  have hm1 : w.heap.size + 1 < q1.heap.size := by omega
  have HN1 := Lib.hid (show ∀ b off s, e1 = some ⟨b, off, s⟩ → b ≠ w.heap.size ∧ b ≠ w.heap.size + 1 from fun b off s e => by have := hne1 b off s e; omega)
  have HR1 := Lib.hid (hv1.ob os1 (fun _ h => h) (fun b off s e => (HN1.out b off s e).1))
  have a1b : q1.cell? ⟨w.heap.size, 3, none⟩ = some (.slice ea en ec) := cell_blk gq1 rfl
  have t1b : q1.frozen? ⟨w.heap.size, 3, none⟩ = false := fro_blk gq1 3
  clear ho1 hg1 ob1 hk1 hbb1 gq1 rq1 bq1 hne1 hv1 os1 a1 t1
  have hown2 := World.ownsRow_lit (base := w1.heap.size) (e := 43) (size := 2) w1 #[] 0 (Nat.le_refl _) (by unfold maxLen; omega) rfl
  have hve2 := (HM.out.kept (b1.alloc b1.size (.cells #[] 43)))
  have hsd2 : w1.heap.size ≤ (w1.alloc (.cells #[] 43)).heap.size := ((Below.refl w1.heap.size w1).alloc (Nat.le_refl _) _).size
  have a2 : w1.cell? ⟨w.heap.size, 4, none⟩ = some (.slice ma mn mc) := cell_blk g1 rfl
  have t2 : w1.frozen? ⟨w.heap.size, 4, none⟩ = false := fro_blk g1 4
  have G2 := Lib.hid g1
  have R2 := Lib.hid r1
  have B2 := Lib.hid b1
  have SZ2 := Lib.hid s1
  rw [s1] at hown2 hsd2
  rw [hw1x] at hown2 hve2 hsd2 a2 t2
  have HWE2 := Lib.hid (show q1.setCell ⟨w.heap.size, 3, none⟩ (.slice e1 en c1) = w1 from hw1x.symm)
  have HOW2 := Lib.hid hown2
  have HVE2 := Lib.hid hve2
  have HSD2 := Lib.hid hsd2
  clear hw1x s1 b1 g1 r1 hown2 hve2 hsd2
  go_wp2_with (at_builtin; refine wpList_append9M rfl (.tmp 8) (.tmp 10) rfl (q1.heap.size) _ 0 [] rfl HOW2.out _ _ _ _ rfl HVE2.out (by have := H63.out.2.1; omega) HSD2.out ?_)
  intro v2 q2 ho2 hg2
  try simp only [List.nil_append, Nat.zero_add] at ho2
  rw [HWE2.out] at hg2
  rw [← SZ2.out] at hg2
  obtain ⟨ob2, hk2, hbb2⟩ := step_row w.heap.size rfl hg2
  have gq2 := (hk2 w.heap.size (Array.getElem?_eq_some_iff.1 G2.out).1).trans G2.out
  have rq2 := (hk2 (w.heap.size + 1) (Array.getElem?_eq_some_iff.1 R2.out).1).trans R2.out
  have bq2 : Below w.heap.size w q2 := hbb2 w B2.out
  obtain ⟨e2, c2, rfl⟩ := own_slice9 ho2
  have hne2 := own_addr ho2
  have hv2 := VecAt.ofOwn (S := MarkS) ho2 HM.out.len (fun x hx => MarkS.mono bq2 (HM.out.all x hx))
  obtain ⟨w2, hw2x⟩ : ∃ w2, w2 = q2.setCell ⟨w.heap.size, 4, none⟩ (.slice e2 mn c2) := ⟨_, rfl⟩
  have g2 : w2.heap[w.heap.size]? = some (.cells #[.int .i64 s, .int .i64 d, .int .i64 hz, .slice e1 en c1, .slice e2 mn c2, .slice oa on oc] 26 (0, 0)) := by rw [hw2x]; exact heap_set gq2 4 _
  have r2 : w2.heap[w.heap.size + 1]? = some (.cells #[.int .i64 0, .int .i64 0, .int .i64 0, .slice none 0 0, .slice none 0 0, .slice none 0 0] 26 (0, 0)) := by rw [hw2x]; exact ((cells_set gq2 4 _).other (w.heap.size + 1) (by omega)).trans rq2
  have b2 : Below w.heap.size w w2 := by rw [hw2x]; exact bq2.setCell (p := ⟨w.heap.size, 4, none⟩) (Nat.le_refl _) _
  have s2 : w2.heap.size = q2.heap.size := by rw [hw2x]; simp
  have os2 : Ob w.heap.size q2 w2 := by rw [hw2x]; exact Ob.set gq2 _
  have hsz2 : w.heap.size + 1 < q1.heap.size ∧ q1.heap.size ≤ q2.heap.size := ⟨by have := hsz1; omega, by have := ob2.size; have h2 := SZ2.out; omega⟩
  have hl2 : w.heap.size < q2.heap.size := by omega
  have hm2 : w.heap.size + 1 < q2.heap.size := by omega
  have HN2 := Lib.hid (show ∀ b off s, e2 = some ⟨b, off, s⟩ → b ≠ w.heap.size ∧ b ≠ w.heap.size + 1 from fun b off s e => by have := hne2 b off s e; omega)
  have HR2 := Lib.hid (hv2.ob os2 (fun _ h => h) (fun b off s e => (HN2.out b off s e).1))
  have HR1 := Lib.hid ((HR1.out.ob ob2 (fun _ h => h) (fun b off s e => (HN1.out b off s e).1)).ob os2 (fun _ h => h) (fun b off s e => (HN1.out b off s e).1))
  have a2b : q2.cell? ⟨w.heap.size, 4, none⟩ = some (.slice ma mn mc) := cell_blk gq2 rfl
  have t2b : q2.frozen? ⟨w.heap.size, 4, none⟩ = false := fro_blk gq2 4
  clear ho2 hg2 ob2 hk2 hbb2 gq2 rq2 bq2 hne2 hv2 os2 a2 t2
  have hown3 := World.ownsRow_lit (base := w2.heap.size) (e := 45) (size := 3) w2 #[] 0 (Nat.le_refl _) (by unfold maxLen; omega) rfl
  have hve3 := (HO.out.kept (b2.alloc b2.size (.cells #[] 45)))
  have hsd3 : w2.heap.size ≤ (w2.alloc (.cells #[] 45)).heap.size := ((Below.refl w2.heap.size w2).alloc (Nat.le_refl _) _).size
  have a3 : w2.cell? ⟨w.heap.size, 5, none⟩ = some (.slice oa on oc) := cell_blk g2 rfl
  have t3 : w2.frozen? ⟨w.heap.size, 5, none⟩ = false := fro_blk g2 5
  have G3 := Lib.hid g2
  have R3 := Lib.hid r2
  have B3 := Lib.hid b2
  have SZ3 := Lib.hid s2
  rw [s2] at hown3 hsd3
  rw [hw2x] at hown3 hve3 hsd3 a3 t3
  have HWE3 := Lib.hid (show q2.setCell ⟨w.heap.size, 4, none⟩ (.slice e2 mn c2) = w2 from hw2x.symm)
  have HOW3 := Lib.hid hown3
  have HVE3 := Lib.hid hve3
  have HSD3 := Lib.hid hsd3
  clear hw2x s2 b2 g2 r2 hown3 hve3 hsd3
  go_wp2_with (at_builtin; refine wpList_append9O rfl (.tmp 13) (.tmp 15) rfl (q2.heap.size) _ 0 [] rfl HOW3.out _ _ _ _ rfl HVE3.out (by have := H63.out.2.2; omega) HSD3.out ?_)
  intro v3 q3 ho3 hg3
  try simp only [List.nil_append, Nat.zero_add] at ho3
  rw [HWE3.out] at hg3
  rw [← SZ3.out] at hg3
  obtain ⟨ob3, hk3, hbb3⟩ := step_row w.heap.size rfl hg3
  have gq3 := (hk3 w.heap.size (Array.getElem?_eq_some_iff.1 G3.out).1).trans G3.out
  have rq3 := (hk3 (w.heap.size + 1) (Array.getElem?_eq_some_iff.1 R3.out).1).trans R3.out
  have bq3 : Below w.heap.size w q3 := hbb3 w B3.out
  obtain ⟨e3, c3, rfl⟩ := own_slice9 ho3
  have hne3 := own_addr ho3
  have hv3 := VecAt.ofOwn (S := OwnS) ho3 HO.out.len (fun x hx => OwnS.mono bq3 (HO.out.all x hx))
  obtain ⟨w3, hw3x⟩ : ∃ w3, w3 = q3.setCell ⟨w.heap.size, 5, none⟩ (.slice e3 on c3) := ⟨_, rfl⟩
  have g3 : w3.heap[w.heap.size]? = some (.cells #[.int .i64 s, .int .i64 d, .int .i64 hz, .slice e1 en c1, .slice e2 mn c2, .slice e3 on c3] 26 (0, 0)) := by rw [hw3x]; exact heap_set gq3 5 _
  have r3 : w3.heap[w.heap.size + 1]? = some (.cells #[.int .i64 0, .int .i64 0, .int .i64 0, .slice none 0 0, .slice none 0 0, .slice none 0 0] 26 (0, 0)) := by rw [hw3x]; exact ((cells_set gq3 5 _).other (w.heap.size + 1) (by omega)).trans rq3
  have b3 : Below w.heap.size w w3 := by rw [hw3x]; exact bq3.setCell (p := ⟨w.heap.size, 5, none⟩) (Nat.le_refl _) _
  have s3 : w3.heap.size = q3.heap.size := by rw [hw3x]; simp
  have os3 : Ob w.heap.size q3 w3 := by rw [hw3x]; exact Ob.set gq3 _
  have hsz3 : w.heap.size + 1 < q2.heap.size ∧ q2.heap.size ≤ q3.heap.size := ⟨by have := hsz2; omega, by have := ob3.size; have h2 := SZ3.out; omega⟩
  have hl3 : w.heap.size < q3.heap.size := by omega
  have hm3 : w.heap.size + 1 < q3.heap.size := by omega
  have HN3 := Lib.hid (show ∀ b off s, e3 = some ⟨b, off, s⟩ → b ≠ w.heap.size ∧ b ≠ w.heap.size + 1 from fun b off s e => by have := hne3 b off s e; omega)
  have HR3 := Lib.hid (hv3.ob os3 (fun _ h => h) (fun b off s e => (HN3.out b off s e).1))
  have HR1 := Lib.hid ((HR1.out.ob ob3 (fun _ h => h) (fun b off s e => (HN1.out b off s e).1)).ob os3 (fun _ h => h) (fun b off s e => (HN1.out b off s e).1))
  have HR2 := Lib.hid ((HR2.out.ob ob3 (fun _ h => h) (fun b off s e => (HN2.out b off s e).1)).ob os3 (fun _ h => h) (fun b off s e => (HN2.out b off s e).1))
  have a3b : q3.cell? ⟨w.heap.size, 5, none⟩ = some (.slice oa on oc) := cell_blk gq3 rfl
  have t3b : q3.frozen? ⟨w.heap.size, 5, none⟩ = false := fro_blk gq3 5
  clear ho3 hg3 ob3 hk3 hbb3 gq3 rq3 bq3 hne3 hv3 os3 a3 t3
  have HRF := Lib.hid r3
  have HGF := Lib.hid g3
  have HBF := Lib.hid b3
  have z0 : w3.cell? ⟨w.heap.size, 0, none⟩ = some (.int .i64 s) := cell_blk g3 rfl
  have z1 : w3.cell? ⟨w.heap.size, 1, none⟩ = some (.int .i64 d) := cell_blk g3 rfl
  have z2 : w3.cell? ⟨w.heap.size, 2, none⟩ = some (.int .i64 hz) := cell_blk g3 rfl
  have z3 : w3.cell? ⟨w.heap.size, 3, none⟩ = some (.slice e1 en c1) := cell_blk g3 rfl
  have z4 : w3.cell? ⟨w.heap.size, 4, none⟩ = some (.slice e2 mn c2) := cell_blk g3 rfl
  have z5 : w3.cell? ⟨w.heap.size, 5, none⟩ = some (.slice e3 on c3) := cell_blk g3 rfl
  have y0 : w3.frozen? ⟨w.heap.size + 1, 0, none⟩ = false := fro_blk r3 0
  have y1 : w3.frozen? ⟨w.heap.size + 1, 1, none⟩ = false := fro_blk r3 1
  have y2 : w3.frozen? ⟨w.heap.size + 1, 2, none⟩ = false := fro_blk r3 2
  have y3 : w3.frozen? ⟨w.heap.size + 1, 3, none⟩ = false := fro_blk r3 3
  have y4 : w3.frozen? ⟨w.heap.size + 1, 4, none⟩ = false := fro_blk r3 4
  have y5 : w3.frozen? ⟨w.heap.size + 1, 5, none⟩ = false := fro_blk r3 5
  have x0 : w3.cell? ⟨w.heap.size + 1, 0, none⟩ = some (.int .i64 0) := cell_blk r3 rfl
  have x1 : w3.cell? ⟨w.heap.size + 1, 1, none⟩ = some (.int .i64 0) := cell_blk r3 rfl
  have x2 : w3.cell? ⟨w.heap.size + 1, 2, none⟩ = some (.int .i64 0) := cell_blk r3 rfl
  have x3 : w3.cell? ⟨w.heap.size + 1, 3, none⟩ = some (.slice none 0 0) := cell_blk r3 rfl
  have x4 : w3.cell? ⟨w.heap.size + 1, 4, none⟩ = some (.slice none 0 0) := cell_blk r3 rfl
  have x5 : w3.cell? ⟨w.heap.size + 1, 5, none⟩ = some (.slice none 0 0) := cell_blk r3 rfl
  rw [hw3x] at z0 z1 z2 z3 z4 z5 y0 y1 y2 y3 y4 y5 x0 x1 x2 x3 x4 x5
  have HW3 := Lib.hid hw3x.symm
  clear hw3x s3 b3 g3 r3
  go_wp2_with fail
  have hr9 := set6 HRF.out (.int .i64 s) (.int .i64 d) (.int .i64 hz) (.slice e1 en c1) (.slice e2 mn c2) (.slice e3 on c3)
  rw [HW3.out]
  refine bodyPost_ret (v := .agg #[.int .i64 s, .int .i64 d, .int .i64 hz, .slice e1 en c1, .slice e2 mn c2, .slice e3 on c3]) (by simp [results, Tryz.results8, go_sem, cell_blk hr9]) rfl ?_
  exact ⟨_, _, _, _, _, _, rfl, vec6o HR1.out (fun _ _ _ h => h) (fun b off s e => (HN1.out b off s e).2) _ _ _ _ _ _, vec6o HR2.out (fun _ _ _ h => h) (fun b off s e => (HN2.out b off s e).2) _ _ _ _ _ _, vec6o HR3.out (fun _ _ _ h => h) (fun b off s e => (HN3.out b off s e).2) _ _ _ _ _ _, below6 HBF.out (by omega) _ _ _ _ _ _⟩
end Go.Proofs.YtbdgcfimbblncaaGreatDoor
end PkMB2_7
section PkMB2_8
/- A text's bytes, as numbers. -/
namespace Go.Proofs.YtbdgcfimbblncaaGreatDoor
open Go.RowKit
set_option linter.unusedVariables false

/-- a text's bytes -/
def byl (s : ByteArray) : List Nat := s.data.toList.map UInt8.toNat
theorem byl_len (s : ByteArray) : (byl s).length = s.size := by unfold byl; rw [List.length_map, Array.length_toList]; rfl
theorem byl_byte (s : ByteArray) : ∀ x ∈ byl s, x < 256 := by
  intro x hx
  unfold byl at hx
  obtain ⟨y, _, rfl⟩ := List.mem_map.1 hx
  exact y.toNat_lt
theorem byl_cells (s : ByteArray) : Lib.strCells s = bv (byl s) := by
  unfold Lib.strCells bv byl
  rw [List.map_map]
  rfl
theorem bs_byl (s : ByteArray) : bs (byl s) = s := by
  apply ByteArray.ext
  apply Array.toList_inj.1
  unfold bs byl
  rw [strOfNums_data, List.map_map, List.map_map]
  conv => rhs; rw [← List.map_id s.data.toList]
  apply List.map_congr_left
  intro x _
  simp
end Go.Proofs.YtbdgcfimbblncaaGreatDoor
end PkMB2_8
section PkMB2_9
/- Bytes that a call makes piece by piece: what it may turn meanwhile; numbers and texts one behind the other, plainly. -/
namespace Go.Proofs.YtbdgcfimbblncaaGreatDoor
open Go.ChangeShapes Go.WideShapes Go.RowKit NumsPlain
set_option linter.unusedVariables false

/-- only what lies from base on has turned, and of that only bytes and what is new -/
structure Gb (base : Nat) (w w' : World) : Prop where
  below : Below base w w'
  other : ∀ (k : Nat) (cur : Array Value) (t : TypeId), w.heap[k]? = some (.cells cur t (0, 0)) → t ≠ 5 → w'.heap[k]? = some (.cells cur t (0, 0))
theorem Gb.refl (base : Nat) (w : World) : Gb base w w := ⟨Below.refl _ _, fun _ _ _ h _ => h⟩
theorem Gb.trans {base : Nat} {w w1 w2 : World} (h : Gb base w w1) (k : Gb base w1 w2) : Gb base w w2 :=
  ⟨h.below.trans k.below, fun i c t a b => k.other i c t (h.other i c t a b) b⟩
theorem Gb.size {base : Nat} {w w' : World} (h : Gb base w w') : w.heap.size ≤ w'.heap.size := h.below.size
theorem Gb.mono {base base' : Nat} {w w' : World} (h : Gb base w w') (hb : base' ≤ base) : Gb base' w w' := ⟨h.below.mono hb, h.other⟩
theorem Gb.of {base : Nat} {w w' : World} (hb : Below w.heap.size w w') (hs : base ≤ w.heap.size) : Gb base w w' :=
  ⟨hb.mono hs, fun k cur t h _ => (hb.block k (Array.getElem?_eq_some_iff.1 h).1).trans h⟩
theorem Gb.alloc {base : Nat} (w : World) (o : Obj) (hs : base ≤ w.heap.size) : Gb base w (w.alloc o) := Gb.of ((Below.refl _ _).alloc (Nat.le_refl _) o) hs
theorem Gb.grow {base n : Nat} {w w' : World} {v : Value} {xs : List Value} (ho : w.ownsRow base 5 1 v n xs) (hs : base ≤ w.heap.size) (hg : w.grownBy w' v.ownBlock) : Gb base w w' :=
  ⟨below_own (Below.refl base w) ho hg (Nat.le_refl _) hs, fun k cur t h hne => by
    refine (hg.block k (Array.getElem?_eq_some_iff.1 h).1 (fun e => ?_)).trans h
    rcases ho.2 with ⟨rfl, _⟩ | ⟨g, cap, cu, rfl, _, hh, _⟩
    · simp [Value.ownBlock] at e
    · simp [Value.ownBlock] at e
      subst e
      rw [h] at hh
      simp at hh
      exact hne hh.2⟩
/-- bytes that a call owns, as a slice -/
theorem own_slice {base n : Nat} {w : World} {e : TypeId} {k : Nat} {v : Value} {xs : List Value} (ho : w.ownsRow base e k v n xs) : ∃ a c, v = .slice a n c := by
  rcases ho.2 with ⟨rfl, h0⟩ | ⟨g, cap, cu, rfl, _⟩
  · exact ⟨none, 0, by rw [h0]⟩
  · exact ⟨_, _, rfl⟩
theorem own_gb {base base' n : Nat} {w w' : World} {e : TypeId} {k : Nat} {v : Value} {xs : List Value} (ho : w.ownsRow base' e k v n xs) (hg : Gb base w w') (hne : e ≠ 5) : w'.ownsRow base' e k v n xs := by
  refine ⟨ho.1, ?_⟩
  rcases ho.2 with h | ⟨g, cap, cu, rfl, hb, hh, hr⟩
  · exact .inl h
  · exact .inr ⟨g, cap, cu, rfl, hb, hg.other _ _ _ hh hne, hr⟩

theorem take_snoc {α : Type} (l : List α) (k : Nat) (d : α) (h : k < l.length) : l.take (k + 1) = l.take k ++ [l.getD k d] := by
  rw [List.take_add_one]
  congr 1
  simp [h]
/-- bytes that may be appended to: a call's own, or a slice that has no room left -/
def ApB (base : Nat) (w : World) (v : Value) (n : Nat) (xs : List Nat) : Prop := w.ownsRow base 5 1 v n (bv xs) ∨ ∃ a, v = .slice a n n ∧ BytesAt w a n n xs
theorem ApB.slice {base n : Nat} {w : World} {v : Value} {xs : List Nat} (h : ApB base w v n xs) : ∃ a c, v = .slice a n c := by
  rcases h with h | ⟨a, rfl, _⟩
  · exact own_slice h
  · exact ⟨_, _, rfl⟩
theorem ApB.below {base n : Nat} {w w' : World} {v : Value} {xs : List Nat} (h : ApB base w v n xs) (hb : Below w.heap.size w w') : ApB base w' v n xs := by
  rcases h with h | ⟨a, e, h⟩
  · exact .inl (own_below h hb)
  · exact .inr ⟨a, e, h.kept hb⟩
theorem bytes_srcOf {w : World} {a : Option Addr} {n c : Nat} {zs : List Nat} (h : BytesAt w a n c zs) : Src Tryz.prog 1 30 (.slice a n c) n (bv zs) w := by
  rcases a with _ | ad
  · have hc := h.nl rfl
    have hn := h.cap
    obtain rfl : n = 0 := by omega
    obtain rfl : zs = [] := List.eq_nil_of_length_eq_zero h.len
    exact Src.ofNil w Tryz.underlying30 c
  · exact Src.ofSlice w Tryz.underlying30 ad n c (bv zs) (by rw [bv_length, h.len]; omega) h.src (bv_oneCell _)
theorem run_append_bytes_full (w : World) (ty : TypeId) {base : Nat} {a b : Option Addr} {n m c : Nat} {xs ys : List Nat} (hx : BytesAt w a n n xs) (hy : BytesAt w b m c ys) (hm : 0 < m) (hn : n + m ≤ 1000000000) (hbs : base ≤ w.heap.size) :
    ∃ v' w', (Builtin.append_ #[30, 30] ty #[.slice a n n, .slice b m c]).run Tryz.prog w = .ok v' w' ∧ w'.ownsRow base 5 1 v' (n + m) (bv (xs ++ ys)) ∧ Below w.heap.size w w' := by
  obtain ⟨i0, hi, hz0, hz1, hz2⟩ := info_parts info_u8
  have hsx := bytes_srcOf hx
  have hsy := bytes_srcOf hy
  rw [← hz1] at hsx hsy
  have hr := run_append_grow_src w 30 30 ty 5 i0 _ Tryz.underlying30 hi hz0 a n n (bv xs) hsx.cellsD _ m (bv ys) hsy (by omega) (by omega) (growslice_fits (by omega) (by rw [hz2]; omega))
  have hge := grownCap_ge w (n + m) n 5
  have hle := grownCap_le_maxLen w (n + m) n 5 (by unfold maxLen; omega)
  have hlx : (bv xs ++ bv ys).length = n + m := by rw [List.length_append, bv_length, bv_length, hx.len, hy.len]
  have hzl : (Builtin.zeroCells (Value.int .u8 0).cells (grownCap w (n + m) n 5 - (n + m))).size = grownCap w (n + m) n 5 - (n + m) := by simp [Builtin.zeroCells, Value.cells]
  have hb : Below w.heap.size w (w.drew.alloc (.cells ((bv xs ++ bv ys).toArray ++ Builtin.zeroCells (Value.int .u8 0).cells (grownCap w (n + m) n 5 - (n + m))) 5)) := ((Below.refl w.heap.size w).drew).alloc (Nat.le_refl _) _
  refine ⟨_, _, hr, ⟨by rw [bv_length, List.length_append, hx.len, hy.len, Nat.mul_one], .inr ⟨w.heap.size, _, _, rfl, hbs, heap_alloc_new w.drew _, hge, hle, ?_, ?_⟩⟩, hb⟩
  · rw [Array.size_append, hzl, List.size_toArray, hlx]; omega
  · rw [Array.toList_append, List.toList_toArray, Nat.mul_one, List.take_append_of_le_length (by omega), ← hlx, List.take_length, bv_append]
/-- append of bytes, to bytes that may be appended to -/
theorem wpList_append_ap {w : World} {ops : Array Oper} {rest : List Oper} {o : Oper} {a : Act} {Q : Exit → Act → World → Prop} (hgd : o.guard = none) (s x : Operand)
    (ho : o.op = .call { callee := .builtin .append, args := #[s, x], argTypes := #[30, 30] })
    (base : Nat) (v : Value) (n : Nat) (xs : List Nat) (hs : a.eval s = v) (hap : ApB base w v n xs)
    (src : Option Addr) (m c : Nat) (ys : List Nat) (hx : a.eval x = .slice src m c) (hb : BytesAt w src m c ys) (hm : 0 < m)
    (hn : n + m ≤ 1000000000) (hbs : base ≤ w.heap.size)
    (h : ∀ v' w', w'.ownsRow base 5 1 v' (n + m) (bv (xs ++ ys)) → Gb base w w' → wpList Tryz.prog ops Q rest (a.put o.dst v') w') : wpList Tryz.prog ops Q (o :: rest) a w := by
  rcases hap with hown | ⟨ad, rfl, hat⟩
  · refine wpList_append_bytes hgd s x ho base v n xs hs hown src m c ys hx hb (by omega) hbs ?_
    intro v' w' h1 h2
    exact h v' w' h1 (Gb.grow hown hbs h2)
  · refine wpList_plain hgd fun K hK => ?_
    obtain ⟨v', w', hr, h2, h3⟩ := run_append_bytes_full w o.type hat hb hm hn hbs
    unfold Oper.wp execOp
    simp only [ho, resolve, invoke, builtin, Sem.run_bind, Sem.run_pure, Result.andThen_ok, List.map_toArray, List.map_cons, List.map_nil, hs, hx, hr]
    exact hK _ _ (h v' w' h2 (Gb.of h3 hbs))

/-- numbers, one behind the other -/
def nI (l : List Nat) : List Nat := l.flatMap pu
theorem nI_nil : nI [] = [] := rfl
theorem nI_cons (z : Nat) (l : List Nat) : nI (z :: l) = pu z ++ nI l := by unfold nI; rw [List.flatMap_cons]
theorem nI_app (l r : List Nat) : nI (l ++ r) = nI l ++ nI r := by unfold nI; rw [List.flatMap_append]
theorem nI_take (l : List Nat) (k : Nat) (h : k < l.length) : nI (l.take (k + 1)) = nI (l.take k) ++ pu (l.getD k 0) := by
  rw [take_snoc l k 0 h, nI_app, nI_cons, nI_nil, List.append_nil]
theorem nI_len : ∀ (l : List Nat), (∀ z ∈ l, z < 9223372036854775808) → (nI l).length ≤ 10 * l.length
  | [], _ => Nat.zero_le _
  | z :: l, h => by
    have h1 := nI_len l (fun y hy => h y (List.mem_cons_of_mem _ hy))
    have h2 := pu_ten (n := z) (by have := h z (List.mem_cons_self ..); omega)
    rw [nI_cons, List.length_append, List.length_cons]
    omega
theorem nI_byte : ∀ (l : List Nat), (∀ z ∈ l, z < 9223372036854775808) → ∀ x ∈ nI l, x < 256
  | [], _, x, hx => by cases hx
  | z :: l, h, x, hx => by
    rw [nI_cons] at hx
    rcases List.mem_append.1 hx with g | g
    · exact pu_bytes (by have := h z (List.mem_cons_self ..); omega) x g
    · exact nI_byte l (fun y hy => h y (List.mem_cons_of_mem _ hy)) x g
theorem nI_one (z : Nat) : nI [z] = pu z := by rw [nI_cons, nI_nil, List.append_nil]
/-- a text behind its length -/
def txC (s : ByteArray) : List Nat := pu s.size ++ byl s
theorem txC_len (s : ByteArray) (h : s.size < 9223372036854775808) : (txC s).length ≤ 10 + s.size := by
  have := pu_ten (n := s.size) (by omega)
  unfold txC; rw [List.length_append, byl_len]; omega
theorem txC_byte (s : ByteArray) (h : s.size < 9223372036854775808) : ∀ x ∈ txC s, x < 256 := by
  intro x hx
  rcases List.mem_append.1 hx with g | g
  · exact pu_bytes (by omega) x g
  · exact byl_byte s x g
/-- the first k things of a list, one behind the other -/
def sqC {α : Type} (f : α → List Nat) (d : α) (l : List α) : Nat → List Nat
  | 0 => []
  | k + 1 => sqC f d l k ++ f (l.getD k d)
theorem sqC_byte {α : Type} {f : α → List Nat} {d : α} {l : List α} (h : ∀ x ∈ l, ∀ y ∈ f x, y < 256) : ∀ k, k ≤ l.length → ∀ y ∈ sqC f d l k, y < 256
  | 0, _, y, hy => by cases hy
  | k + 1, hk, y, hy => by
    rcases List.mem_append.1 hy with g | g
    · exact sqC_byte h k (by omega) y g
    · exact h _ (by rw [show l.getD k d = l[k] from by simp [show k < l.length from by omega]]; exact List.getElem_mem _) y g
theorem sqC_len {α : Type} {f : α → List Nat} {d : α} {l : List α} {m : Nat} (h : ∀ x ∈ l, (f x).length ≤ m) : ∀ k, k ≤ l.length → (sqC f d l k).length ≤ k * m
  | 0, _ => by simp [sqC]
  | k + 1, hk => by
    have h1 := sqC_len (d := d) h k (by omega)
    have h2 := h (l.getD k d) (by rw [show l.getD k d = l[k] from by simp [show k < l.length from by omega]]; exact List.getElem_mem _)
    rw [sqC, List.length_append, Nat.succ_mul]
    omega
theorem sqC_flat {α : Type} (f : α → List Nat) (d : α) (l : List α) : ∀ k, k ≤ l.length → sqC f d l k = (l.take k).flatMap f
  | 0, _ => rfl
  | k + 1, hk => by
    rw [sqC, sqC_flat f d l k (by omega), take_snoc l k d (by omega), List.flatMap_append]
    simp
end Go.Proofs.YtbdgcfimbblncaaGreatDoor
end PkMB2_9
section PkMB2_10
/- Manifests: numbers and texts put behind bytes, walked. Written by genmfenc.py. -/
namespace Go.Proofs.YtbdgcfimbblncaaGreatDoor
open Go.RowKit NumsPlain
set_option linter.unusedVariables false

set_option maxRecDepth 100000 in
set_option maxHeartbeats 2000000 in
theorem mnums_any {w : World} {base n g k : Nat} {v : Value} {xs zs : List Nat} {cs : Array Value} (ho : ApB base w v n xs) (hbs : base ≤ w.heap.size) (hg : w.heap[g]? = some (.cells cs 3 (0, 0))) (hcs : cs.toList = zs.map fun z => Value.int .i64 ((z : Nat) : Int)) (hk : k = zs.length) (hz : ∀ z ∈ zs, z < 9223372036854775808) (hk20 : k ≤ 20) (hk0 : 0 < k) (hn : n ≤ 100000000) :
    Calls Tryz.prog 21 #[v, .slice (some ⟨g, 0, none⟩) k k] w fun e w' => ∃ v', e = .returned v' ∧ w'.ownsRow base 5 1 v' (n + (nI zs).length) (bv (xs ++ nI zs)) ∧ Gb base w w' := by
  obtain ⟨a, c, rfl⟩ := ho.slice
  have hcell : ∀ j, j < k → cs[j]? = some (.int .i64 ((zs.getD j 0 : Nat) : Int)) := fun j hj => by
    rw [← Array.getElem?_toList, hcs]
    simp [show j < zs.length by omega]
  have h63 : ∀ j, j < k → zs.getD j 0 < 9223372036854775808 := fun j hj => hz _ (by rw [show zs.getD j 0 = zs[j] from by simp [show j < zs.length by omega]]; exact List.getElem_mem _)
  have hlen : ∀ j, (nI (zs.take j)).length ≤ 10 * k := fun j => by
    have := nI_len (zs.take j) (fun z hz2 => hz z (List.mem_of_mem_take hz2))
    have h2 : (zs.take j).length ≤ zs.length := by simp; omega
    omega
  have HC := Lib.hid hcell
  have H63 := Lib.hid h63
  have HL := Lib.hid hlen
  have HO := Lib.hid ho
  have HG := Lib.hid hg
  have HK := Lib.hid hk
  have HBS := Lib.hid hbs
  clear ho hg hcs hcell h63 hlen hz hk hbs
  go_enter Tryz.func21, Tryz.ntmps21
  go_wp2_with fail
  go_loopw [0, 6, 9] (fun s0 _ s9 wr => ∃ (j m c9 : Nat) (a9 : Option Addr), j ≤ k ∧ s9 = .int .i64 (j : Int) ∧ s0 = .slice a9 m c9 ∧ Hid (m = n + (nI (zs.take j)).length) ∧ Hid (ApB base wr (.slice a9 m c9) m (xs ++ nI (zs.take j))) ∧ Hid (0 < j → wr.ownsRow base 5 1 (.slice a9 m c9) m (bv (xs ++ nI (zs.take j)))) ∧ Hid (Gb base w wr)) (fun _ _ s9 _ => k - (intOf s9).toNat)
  case atStart => exact ⟨0, n, c, a, by omega, rfl, rfl, Lib.hid (by simp [nI_nil]), Lib.hid (by simpa [nI_nil] using HO.out), Lib.hid (fun h => absurd h (Nat.lt_irrefl 0)), Lib.hid (Gb.refl _ _)⟩
  case round =>
    clear HO
    obtain ⟨j, m, c9, a9, hj, rfl, rfl, HM, HO, HOW, HGB⟩ := hrel
    rename World => wr
    by_cases hjk : j < k
    · have hji : (j : Int) < (k : Int) := by omega
      obtain ⟨z, hz⟩ : ∃ z, z = zs.getD j 0 := ⟨_, rfl⟩
      have c0 : wr.cell? ⟨g, j, none⟩ = some (.int .i64 (z : Int)) := by
        rw [cell_of_row wr g j _ _ (0, 0) (HGB.out.other _ _ _ HG.out (by decide)), hz]; exact HC.out j hjk
      have hz63 : z < 9223372036854775808 := by rw [hz]; exact H63.out j hjk
      have hm : m ≤ 100000200 := by have h1 := HM.out; have h2 := HL.out j; omega
      have HZ := Lib.hid (show nI (zs.take (j + 1)) = nI (zs.take j) ++ pu z from by rw [hz]; exact nI_take zs j (by have := HK.out; omega))
      have HP := Lib.hid (putu z (by omega) wr)
      have h10 := pu_ten (n := z) (by omega)
      have HSZ := Lib.hid (Nat.le_trans HBS.out HGB.out.size)
      clear hz
      go_wp2_with fail
      refine HP.out.mono ?_
      rintro e w1 ⟨g1, c1, rfl, hg1, hb1, hbel⟩
      have HB1 := Lib.hid hbel
      have H1 := Lib.hid hb1
      have HS := Lib.hid (Nat.le_trans HSZ.out hbel.size)
      have HO1 := Lib.hid (HO.out.below hbel)
      have HPP := Lib.hid (pu_pos z)
      clear hb1 hbel hg1 c0
      go_wp2_with (at_builtin; refine wpList_append_ap rfl (.tmp 13) (.tmp 16) rfl base _ m _ rfl HO1.out _ _ _ (pu z) rfl H1.out HPP.out (by omega) HS.out ?_)
      intro v2 w2 ho2 hg2
      have HG2 := Lib.hid ((HGB.out.trans (Gb.of HB1.out HSZ.out)).trans hg2)
      rw [← HZ.out] at ho2
      have HM2 := Lib.hid (show m + (pu z).length = n + (nI (zs.take (j + 1))).length from by rw [HZ.out, List.length_append, HM.out]; omega)
      obtain ⟨a3, c3, rfl⟩ := own_slice ho2
      have HO2 := Lib.hid ho2
      clear ho2 hg2
      go_wp2_with fail
      go_roundw
      case rel => exact ⟨j + 1, _, c3, a3, by omega, by go_num, rfl, HM2, Lib.hid (.inl HO2.out), Lib.hid (fun _ => HO2.out), HG2⟩
      case measure => simp [intOf]; omega
    · obtain rfl : j = k := by omega
      have e9 : zs.take j = zs := by rw [HK.out, List.take_length]
      have hm := HM.out
      have ho := HOW.out (by omega)
      rw [e9] at ho hm
      have HOF := Lib.hid (show wr.ownsRow base 5 1 (.slice a9 m c9) (n + (nI zs).length) (bv (xs ++ nI zs)) from by rw [← hm]; exact ho)
      clear hjk e9 hm ho
      go_wp2_with fail
      go_ret
      exact ⟨_, rfl, HOF.out, HGB.out⟩
/-- the numbers written out just ahead -/
theorem mnums_lit {w : World} {base n : Nat} {v : Value} {xs : List Nat} (ho : ApB base w v n xs) (hbs : base ≤ w.heap.size) (hn : n ≤ 100000000) (zs : List Nat) (cs : Array Value) (k : Nat) (hcs : cs.toList = zs.map fun z => Value.int .i64 ((z : Nat) : Int)) (hk : k = zs.length) (hz : ∀ z ∈ zs, z < 9223372036854775808) (hk20 : k ≤ 20) (hk0 : 0 < k) :
    Calls Tryz.prog 21 #[v, .slice (some ⟨w.heap.size, 0, none⟩) k k] (w.alloc (.cells cs 3)) fun e w' => ∃ v', e = .returned v' ∧ w'.ownsRow base 5 1 v' (n + (nI zs).length) (bv (xs ++ nI zs)) ∧ Gb base w w' := by
  refine (mnums_any (ho.below ((Below.refl _ _).alloc (Nat.le_refl _) _)) (Nat.le_trans hbs (Gb.alloc w (.cells cs 3) hbs).size) (heap_alloc_new _ _) hcs hk hz hk20 hk0 hn).mono ?_
  rintro e w' ⟨v', rfl, ho2, hg⟩
  exact ⟨v', rfl, ho2, (Gb.alloc w _ hbs).trans hg⟩

set_option maxRecDepth 100000 in
set_option maxHeartbeats 2000000 in
theorem rnums_any {w : World} {base n g k : Nat} {v : Value} {xs zs : List Nat} {cs : Array Value} (ho : ApB base w v n xs) (hbs : base ≤ w.heap.size) (hg : w.heap[g]? = some (.cells cs 3 (0, 0))) (hcs : cs.toList = zs.map fun z => Value.int .i64 ((z : Nat) : Int)) (hk : k = zs.length) (hz : ∀ z ∈ zs, z < 9223372036854775808) (hk20 : k ≤ 20) (hk0 : 0 < k) (hn : n ≤ 100000000) :
    Calls Tryz.prog 45 #[v, .slice (some ⟨g, 0, none⟩) k k] w fun e w' => ∃ v', e = .returned v' ∧ w'.ownsRow base 5 1 v' (n + (nI zs).length) (bv (xs ++ nI zs)) ∧ Gb base w w' := by
  obtain ⟨a, c, rfl⟩ := ho.slice
  have hcell : ∀ j, j < k → cs[j]? = some (.int .i64 ((zs.getD j 0 : Nat) : Int)) := fun j hj => by
    rw [← Array.getElem?_toList, hcs]
    simp [show j < zs.length by omega]
  have h63 : ∀ j, j < k → zs.getD j 0 < 9223372036854775808 := fun j hj => hz _ (by rw [show zs.getD j 0 = zs[j] from by simp [show j < zs.length by omega]]; exact List.getElem_mem _)
  have hlen : ∀ j, (nI (zs.take j)).length ≤ 10 * k := fun j => by
    have := nI_len (zs.take j) (fun z hz2 => hz z (List.mem_of_mem_take hz2))
    have h2 : (zs.take j).length ≤ zs.length := by simp; omega
    omega
  have HC := Lib.hid hcell
  have H63 := Lib.hid h63
  have HL := Lib.hid hlen
  have HO := Lib.hid ho
  have HG := Lib.hid hg
  have HK := Lib.hid hk
  have HBS := Lib.hid hbs
  clear ho hg hcs hcell h63 hlen hz hk hbs
  go_enter Tryz.func45, Tryz.ntmps45
  go_wp2_with fail
  go_loopw [0, 6, 9] (fun s0 _ s9 wr => ∃ (j m c9 : Nat) (a9 : Option Addr), j ≤ k ∧ s9 = .int .i64 (j : Int) ∧ s0 = .slice a9 m c9 ∧ Hid (m = n + (nI (zs.take j)).length) ∧ Hid (ApB base wr (.slice a9 m c9) m (xs ++ nI (zs.take j))) ∧ Hid (0 < j → wr.ownsRow base 5 1 (.slice a9 m c9) m (bv (xs ++ nI (zs.take j)))) ∧ Hid (Gb base w wr)) (fun _ _ s9 _ => k - (intOf s9).toNat)
  case atStart => exact ⟨0, n, c, a, by omega, rfl, rfl, Lib.hid (by simp [nI_nil]), Lib.hid (by simpa [nI_nil] using HO.out), Lib.hid (fun h => absurd h (Nat.lt_irrefl 0)), Lib.hid (Gb.refl _ _)⟩
  case round =>
    clear HO
    obtain ⟨j, m, c9, a9, hj, rfl, rfl, HM, HO, HOW, HGB⟩ := hrel
    rename World => wr
    by_cases hjk : j < k
    · have hji : (j : Int) < (k : Int) := by omega
      obtain ⟨z, hz⟩ : ∃ z, z = zs.getD j 0 := ⟨_, rfl⟩
      have c0 : wr.cell? ⟨g, j, none⟩ = some (.int .i64 (z : Int)) := by
        rw [cell_of_row wr g j _ _ (0, 0) (HGB.out.other _ _ _ HG.out (by decide)), hz]; exact HC.out j hjk
      have hz63 : z < 9223372036854775808 := by rw [hz]; exact H63.out j hjk
      have hm : m ≤ 100000200 := by have h1 := HM.out; have h2 := HL.out j; omega
      have HZ := Lib.hid (show nI (zs.take (j + 1)) = nI (zs.take j) ++ pu z from by rw [hz]; exact nI_take zs j (by have := HK.out; omega))
      have HP := Lib.hid (rputu z (by omega) wr)
      have h10 := pu_ten (n := z) (by omega)
      have HSZ := Lib.hid (Nat.le_trans HBS.out HGB.out.size)
      clear hz
      go_wp2_with fail
      refine HP.out.mono ?_
      rintro e w1 ⟨g1, c1, rfl, hg1, hb1, hbel⟩
      have HB1 := Lib.hid hbel
      have H1 := Lib.hid hb1
      have HS := Lib.hid (Nat.le_trans HSZ.out hbel.size)
      have HO1 := Lib.hid (HO.out.below hbel)
      have HPP := Lib.hid (pu_pos z)
      clear hb1 hbel hg1 c0
      go_wp2_with (at_builtin; refine wpList_append_ap rfl (.tmp 13) (.tmp 16) rfl base _ m _ rfl HO1.out _ _ _ (pu z) rfl H1.out HPP.out (by omega) HS.out ?_)
      intro v2 w2 ho2 hg2
      have HG2 := Lib.hid ((HGB.out.trans (Gb.of HB1.out HSZ.out)).trans hg2)
      rw [← HZ.out] at ho2
      have HM2 := Lib.hid (show m + (pu z).length = n + (nI (zs.take (j + 1))).length from by rw [HZ.out, List.length_append, HM.out]; omega)
      obtain ⟨a3, c3, rfl⟩ := own_slice ho2
      have HO2 := Lib.hid ho2
      clear ho2 hg2
      go_wp2_with fail
      go_roundw
      case rel => exact ⟨j + 1, _, c3, a3, by omega, by go_num, rfl, HM2, Lib.hid (.inl HO2.out), Lib.hid (fun _ => HO2.out), HG2⟩
      case measure => simp [intOf]; omega
    · obtain rfl : j = k := by omega
      have e9 : zs.take j = zs := by rw [HK.out, List.take_length]
      have hm := HM.out
      have ho := HOW.out (by omega)
      rw [e9] at ho hm
      have HOF := Lib.hid (show wr.ownsRow base 5 1 (.slice a9 m c9) (n + (nI zs).length) (bv (xs ++ nI zs)) from by rw [← hm]; exact ho)
      clear hjk e9 hm ho
      go_wp2_with fail
      go_ret
      exact ⟨_, rfl, HOF.out, HGB.out⟩
/-- the numbers written out just ahead -/
theorem rnums_lit {w : World} {base n : Nat} {v : Value} {xs : List Nat} (ho : ApB base w v n xs) (hbs : base ≤ w.heap.size) (hn : n ≤ 100000000) (zs : List Nat) (cs : Array Value) (k : Nat) (hcs : cs.toList = zs.map fun z => Value.int .i64 ((z : Nat) : Int)) (hk : k = zs.length) (hz : ∀ z ∈ zs, z < 9223372036854775808) (hk20 : k ≤ 20) (hk0 : 0 < k) :
    Calls Tryz.prog 45 #[v, .slice (some ⟨w.heap.size, 0, none⟩) k k] (w.alloc (.cells cs 3)) fun e w' => ∃ v', e = .returned v' ∧ w'.ownsRow base 5 1 v' (n + (nI zs).length) (bv (xs ++ nI zs)) ∧ Gb base w w' := by
  refine (rnums_any (ho.below ((Below.refl _ _).alloc (Nat.le_refl _) _)) (Nat.le_trans hbs (Gb.alloc w (.cells cs 3) hbs).size) (heap_alloc_new _ _) hcs hk hz hk20 hk0 hn).mono ?_
  rintro e w' ⟨v', rfl, ho2, hg⟩
  exact ⟨v', rfl, ho2, (Gb.alloc w _ hbs).trans hg⟩


set_option maxRecDepth 100000 in
set_option maxHeartbeats 2000000 in
theorem mtext_any {w : World} {base n : Nat} {v : Value} {xs : List Nat} (ho : w.ownsRow base 5 1 v n (bv xs)) (hbs : base ≤ w.heap.size) (hn : n ≤ 90000000) (s : ByteArray) (hs : s.size ≤ 100000) :
    Calls Tryz.prog 24 #[v, .string s] w fun e w' => ∃ v', e = .returned v' ∧ w'.ownsRow base 5 1 v' (n + (txC s).length) (bv (xs ++ txC s)) ∧ Gb base w w' := by
  obtain ⟨i0, hi, hz0, hz1, hz2⟩ := info_parts info_u8
  have HN := Lib.hid (mnums_lit (.inl ho) hbs (by omega) [s.size] #[.int .i64 (s.size : Int)] 1 rfl rfl (fun z hz => by rw [List.mem_singleton.1 hz]; omega) (by decide) (by decide))
  have h10 := pu_ten (n := s.size) (by omega)
  have HBS := Lib.hid hbs
  clear ho hbs
  go_enter Tryz.func24, Tryz.ntmps24
  go_wp2_with fail
  refine HN.out.mono ?_
  rintro e w1 ⟨v1, rfl, ho1, hg1⟩
  rw [nI_one] at ho1
  have HO1 := Lib.hid ho1
  have HG1 := Lib.hid hg1
  have HS := Lib.hid (Nat.le_trans HBS.out hg1.size)
  clear ho1 hg1
  go_wp2_with (at_builtin; refine Lib.wpList_append_own_string _ rfl (.tmp 9) (.tmp 10) 30 9 rfl base 5 i0 Tryz.underlying30 Tryz.underlying9 hi hz0 hz1 hz2 _ (n + (pu s.size).length) _ rfl HO1.out s rfl (by unfold maxLen; omega) (by omega) HS.out ?_)
  intro v3 w3 ho3 hg3 _
  have HG3 := Lib.hid (HG1.out.trans (Gb.grow HO1.out HS.out hg3))
  rw [byl_cells, ← bv_append, Nat.add_assoc, List.append_assoc, show (pu s.size).length + s.size = (txC s).length from by unfold txC; rw [List.length_append, byl_len]] at ho3
  have HO3 := Lib.hid ho3
  clear ho3 hg3
  go_wp2_with fail
  go_ret
  exact ⟨_, rfl, HO3.out, HG3.out⟩
end Go.Proofs.YtbdgcfimbblncaaGreatDoor
end PkMB2_10
