/- The law LabelTurns, walked. Written by genlabturns.py. -/
import Derived.Test.YtiboghehonmpnaaLabFew
import Derived.Test.YtiboghehonmpnaaLabOpen
import Derived.Test.YtiboghehonmpnaaLabMeet3
import Derived.Test.YtiboghehonmpnaaAnyOrd
import Derived.Test.YtiboghehonmpnaaLabTurnsPlain
import Derived.Deep.CutBlock
namespace Go.Proofs.Ytiboghehonmpnaa
open Go.RowKit LabPlain
set_option linter.unusedVariables false

/-- a matcher's block -/
def MatBlk (w : World) (X : Nat) (a : ByteArray) (k : Int) (b : ByteArray) : Prop := w.heap[X]? = some (.cells #[.string a, .int .i64 k, .string b] 47 (0, 0))
theorem alloc1 {w : World} {B : Nat} {x : Value} {j : Nat} (h : w.cell? ⟨B, j, none⟩ = some x) (o : Obj) : (w.alloc o).cell? ⟨B, j, none⟩ = some x :=
  (((Below.refl w.heap.size w).alloc (Nat.le_refl _) o).cell (p := ⟨B, j, none⟩) (World.block_lt_of_cell? w _ h)).trans h
theorem drewc {w : World} {B : Nat} {x : Value} {j : Nat} (h : w.cell? ⟨B, j, none⟩ = some x) : w.drew.cell? ⟨B, j, none⟩ = some x := h
theorem MatBlk.c0 {w : World} {X : Nat} {a b : ByteArray} {k : Int} (h : MatBlk w X a k b) : w.cell? ⟨X, 0, none⟩ = some (.string a) := by rw [cell_of_row w X 0 _ _ (0, 0) h]; rfl
theorem MatBlk.c1 {w : World} {X : Nat} {a b : ByteArray} {k : Int} (h : MatBlk w X a k b) : w.cell? ⟨X, 1, none⟩ = some (.int .i64 k) := by rw [cell_of_row w X 1 _ _ (0, 0) h]; rfl
theorem MatBlk.c2 {w : World} {X : Nat} {a b : ByteArray} {k : Int} (h : MatBlk w X a k b) : w.cell? ⟨X, 2, none⟩ = some (.string b) := by rw [cell_of_row w X 2 _ _ (0, 0) h]; rfl
theorem MatBlk.f {w : World} {X : Nat} {a b : ByteArray} {k : Int} (h : MatBlk w X a k b) (j : Nat) : w.frozen? ⟨X, j, none⟩ = false := frozen_of_row w X j _ _ h
theorem MatBlk.lt {w : World} {X : Nat} {a b : ByteArray} {k : Int} (h : MatBlk w X a k b) : X < w.heap.size := (Array.getElem?_eq_some_iff.1 h).1
theorem MatBlk.kept {w w' : World} {X : Nat} {a b : ByteArray} {k : Int} (h : MatBlk w X a k b) (hb : Below w.heap.size w w') : MatBlk w' X a k b := by
  unfold MatBlk; rw [hb.block X h.lt]; exact h
theorem MatBlk.set1 {w : World} {X : Nat} {a b : ByteArray} {k : Int} (h : MatBlk w X a k b) (u : Int) : MatBlk (w.setCell ⟨X, 1, none⟩ (.int .i64 u)) X a u b := by
  have := heap_setCell_same w X 1 _ _ (.int .i64 u) h
  unfold MatBlk; rw [this]; simp
theorem MatBlk.set2 {w : World} {X : Nat} {a b : ByteArray} {k : Int} (h : MatBlk w X a k b) (u : ByteArray) : MatBlk (w.setCell ⟨X, 2, none⟩ (.string u)) X a k u := by
  have := heap_setCell_same w X 2 _ _ (.string u) h
  unfold MatBlk; rw [this]; simp
theorem MatBlk.other {w : World} {X Y j : Nat} {a b : ByteArray} {k : Int} (h : MatBlk w X a k b) (hne : X ≠ Y) (u : Value) : MatBlk (w.setCell ⟨Y, j, none⟩ u) X a k b := by
  unfold MatBlk; rw [heap_setCell_other w ⟨Y, j, none⟩ X u (fun e => hne (by simpa using e))]; exact h
def bt0 : ByteArray := { data := #[] }
theorem grown_set (w : World) (g j : Nat) (u : Value) : w.grownBy (w.setCell ⟨g, j, none⟩ u) (some g) :=
  ⟨rfl, rfl, rfl, by simp, fun k _ hk => heap_setCell_other w ⟨g, j, none⟩ k u (fun e => hk (by simp [e]))⟩
theorem grown_row (w : World) (g : Nat) (cs : Array Value) : w.grownBy (w.setRow g cs) (some g) :=
  ⟨rfl, rfl, rfl, by simp, fun k _ hk => setRow_other w g k cs (fun e => hk (by rw [e]))⟩
theorem mat_row {w : World} {p : Nat} {x : ByteArray} {y : Int} {z : ByteArray} (h : MatBlk w p x y z) (nm : ByteArray) (way : Int) (v : ByteArray) : MatBlk (w.setRow p #[.string nm, .int .i64 way, .string v]) p nm way v :=
  setRow_heap w p _ _ _ _ h
/-- what holds while m is laid into four new blocks, in whatever order -/
structure I5 (w4 : World) (nm : ByteArray) (way : Int) (v : ByteArray) (L : Nat → Bool) (V : Nat → Value) (w : World) : Prop where
  below : Below w4.heap.size w4 w
  load : ∀ j, j < 4 → L j = true → V j = .agg #[.string nm, .int .i64 way, .string v]
  new : ∀ j, 4 ≤ j → j < 8 → L j = true → ∃ p, V j = .pointer (some ⟨p, 0, none⟩) ∧ w4.heap.size ≤ p ∧ ∃ x y z, MatBlk w p x y z ∧ (L (j + 4) = true → x = nm ∧ y = way ∧ z = v)
  apart : ∀ j k, 4 ≤ j → j < k → k < 8 → L j = true → L k = true → V j ≠ V k
  behind : ∀ j, 4 ≤ j → j < 8 → L (j + 4) = true → L j = true
theorem I5.start (w4 : World) (nm : ByteArray) (way : Int) (v : ByteArray) (V : Nat → Value) : I5 w4 nm way v (fun _ => false) V w4.drew :=
  ⟨(Below.refl _ _).drew, (fun j _ h => Bool.noConfusion h), (fun j _ _ h => Bool.noConfusion h), (fun j k _ _ _ h => Bool.noConfusion h), (fun j _ _ h => Bool.noConfusion h)⟩
theorem or_l {L : Nat → Bool} {i j : Nat} (h : (L j || decide (j = i)) = true) (hne : j ≠ i) : L j = true := by
  rw [decide_eq_false hne, Bool.or_false] at h; exact h
theorem upd_ne {V : Nat → Value} {i j : Nat} {x : Value} (hne : j ≠ i) : upd V i x j = V j := by unfold upd; rw [if_neg hne]
theorem upd_eq {V : Nat → Value} {i : Nat} {x : Value} : upd V i x i = x := by unfold upd; rw [if_pos rfl]
theorem I5.ld {w4 w : World} {nm : ByteArray} {way : Int} {v : ByteArray} {L : Nat → Bool} {V : Nat → Value} (h : I5 w4 nm way v L V w) {i : Nat} (hi : i < 4) : I5 w4 nm way v (fun j => L j || decide (j = i)) (upd V i (.agg #[.string nm, .int .i64 way, .string v])) w := by
  refine ⟨h.below, fun j hj hl => ?_, fun j h1 h2 hl => ?_, fun j k h1 h2 h3 hl hk => ?_, fun j h1 h2 hl => ?_⟩
  · by_cases e : j = i
    · rw [e, upd_eq]
    · rw [upd_ne e]; exact h.load j hj (or_l hl e)
  · rw [upd_ne (by omega)]
    obtain ⟨p, hp, hg, x, y, z, hb, hc⟩ := h.new j h1 h2 (or_l hl (by omega))
    exact ⟨p, hp, hg, x, y, z, hb, fun hl4 => hc (or_l hl4 (by omega))⟩
  · rw [upd_ne (by omega), upd_ne (by omega)]
    exact h.apart j k h1 h2 h3 (or_l hl (by omega)) (or_l hk (by omega))
  · show (L j || decide (j = i)) = true
    rw [h.behind j h1 h2 (or_l hl (by omega)), Bool.true_or]
theorem I5.al {w4 w : World} {nm : ByteArray} {way : Int} {v : ByteArray} {L : Nat → Bool} {V : Nat → Value} (h : I5 w4 nm way v L V w) {i : Nat} (hi4 : 4 ≤ i) (hi : i < 8) (hL : L i = false) (x0 : ByteArray) (y0 : Int) (z0 : ByteArray) : I5 w4 nm way v (fun j => L j || decide (j = i)) (upd V i (.pointer (some ⟨w.heap.size, 0, none⟩))) (w.alloc (.cells #[.string x0, .int .i64 y0, .string z0] 47)) := by
  have hbl : Below w.heap.size w (w.alloc (.cells #[.string x0, .int .i64 y0, .string z0] 47)) := (Below.refl _ _).alloc (Nat.le_refl _) _
  have hsz := h.below.size
  have hold : ∀ j, 4 ≤ j → j < 8 → L j = true → V j ≠ .pointer (some ⟨w.heap.size, 0, none⟩) := fun j h1 h2 hl e => by
    obtain ⟨p, hp, _, x, y, z, hb, _⟩ := h.new j h1 h2 hl
    rw [hp] at e
    simp only [Value.pointer.injEq, Option.some.injEq, Addr.mk.injEq, and_true] at e
    have := hb.lt
    omega
  refine ⟨h.below.trans (hbl.mono hsz), fun j hj hl => ?_, fun j h1 h2 hl => ?_, fun j k h1 h2 h3 hl hk => ?_, fun j h1 h2 hl => ?_⟩
  · rw [upd_ne (by omega)]; exact h.load j hj (or_l hl (by omega))
  · by_cases e : j = i
    · subst e
      rw [upd_eq]
      refine ⟨_, rfl, hsz, x0, y0, z0, heap_alloc_new w _, fun hl4 => ?_⟩
      have := h.behind j h1 h2 (or_l hl4 (by omega))
      rw [hL] at this; cases this
    · rw [upd_ne e]
      obtain ⟨p, hp, hg, x, y, z, hb, hc⟩ := h.new j h1 h2 (or_l hl e)
      exact ⟨p, hp, hg, x, y, z, hb.kept hbl, fun hl4 => hc (or_l hl4 (by omega))⟩
  · by_cases e : j = i
    · subst e
      rw [upd_eq, upd_ne (by omega)]
      exact fun e2 => hold k (by omega) h3 (or_l hk (by omega)) e2.symm
    · by_cases e2 : k = i
      · subst e2
        rw [upd_eq, upd_ne e]
        exact hold j h1 (by omega) (or_l hl e)
      · rw [upd_ne e, upd_ne e2]
        exact h.apart j k h1 h2 h3 (or_l hl e) (or_l hk e2)
  · show (L j || decide (j = i)) = true
    rw [h.behind j h1 h2 (or_l hl (by omega)), Bool.true_or]
theorem I5.st {w4 w w' : World} {nm : ByteArray} {way : Int} {v : ByteArray} {L : Nat → Bool} {V : Nat → Value} (h : I5 w4 nm way v L V w) {i p : Nat} {u : Value} (hi4 : 4 ≤ i) (hi : i < 8) (hL : L i = true) (hp : V i = .pointer (some ⟨p, 0, none⟩)) (hge : w4.heap.size ≤ p) (hb' : MatBlk w' p nm way v) (hg : w.grownBy w' (some p)) : I5 w4 nm way v (fun j => L j || decide (j = i + 4)) (upd V (i + 4) u) w' := by
  refine ⟨h.below.grown hg h.below.size (fun k hk => by simp only [Option.some.injEq] at hk; omega), fun j hj hl => ?_, fun j h1 h2 hl => ?_, fun j k h1 h2 h3 hl hk => ?_, fun j h1 h2 hl => ?_⟩
  · rw [upd_ne (by omega)]; exact h.load j hj (or_l hl (by omega))
  · rw [upd_ne (by omega)]
    obtain ⟨q, hq, hqg, x, y, z, hb, hc⟩ := h.new j h1 h2 (or_l hl (by omega))
    by_cases e : j = i
    · subst e
      rw [hp] at hq
      simp only [Value.pointer.injEq, Option.some.injEq, Addr.mk.injEq, and_true] at hq
      subst hq
      exact ⟨p, hp, hge, nm, way, v, hb', fun _ => ⟨rfl, rfl, rfl⟩⟩
    · have hne : q ≠ p := fun e2 => by
        subst e2
        rcases Nat.lt_or_ge j i with g | g
        · exact h.apart j i h1 g hi (or_l hl (by omega)) hL (by rw [hq, hp])
        · exact h.apart i j hi4 (by omega) h2 hL (or_l hl (by omega)) (by rw [hq, hp])
      exact ⟨q, hq, hqg, x, y, z, by unfold MatBlk; rw [hg.block q hb.lt (fun e2 => hne (by simpa using e2))]; exact hb, fun hl4 => hc (or_l hl4 (by omega))⟩
  · rw [upd_ne (by omega), upd_ne (by omega)]
    exact h.apart j k h1 h2 h3 (or_l hl (by omega)) (or_l hk (by omega))
  · show (L j || decide (j = i + 4)) = true
    by_cases e : j = i
    · rw [e, hL, Bool.true_or]
    · rw [h.behind j h1 h2 (or_l hl (by omega)), Bool.true_or]
def aggM (m : Mat) : Array Value := #[.string m.1, .int .i64 m.2.1, .string m.2.2]
/-- what is known of each value behind the five calls -/
def F10 (a : Option Addr) (n c : Nat) (l : List Lab) (nm v u : ByteArray) (i : Nat) (x : Value) (w : World) : Prop :=
  match i with
  | 0 => x = .slice a n c
  | 1 => x = .agg (aggM (mq nm v u 0))
  | 2 => ∃ p, x = .slice (some ⟨p, 0, none⟩) 1 1 ∧ MatsAt w (some ⟨p, 0, none⟩) 1 1 [mq nm v u 0]
  | 3 => x = .bool (meetsB l [mq nm v u 0])
  | 4 => x = .slice a n c
  | 5 => x = .agg (aggM (mq nm v u 1))
  | 6 => ∃ p, x = .slice (some ⟨p, 0, none⟩) 1 1 ∧ MatsAt w (some ⟨p, 0, none⟩) 1 1 [mq nm v u 1]
  | 7 => x = .bool (meetsB l [mq nm v u 1])
  | 8 => x = .slice a n c
  | 9 => x = .agg (aggM (mq nm v u 2))
  | 10 => ∃ p, x = .slice (some ⟨p, 0, none⟩) 1 1 ∧ MatsAt w (some ⟨p, 0, none⟩) 1 1 [mq nm v u 2]
  | 11 => x = .bool (meetsB l [mq nm v u 2])
  | 12 => x = .slice a n c
  | 13 => x = .agg (aggM (mq nm v u 3))
  | 14 => ∃ p, x = .slice (some ⟨p, 0, none⟩) 1 1 ∧ MatsAt w (some ⟨p, 0, none⟩) 1 1 [mq nm v u 3]
  | 15 => x = .bool (meetsB l [mq nm v u 3])
  | 16 => x = .slice a n c
  | 17 => x = .agg (aggM (mq nm v u 4))
  | 18 => ∃ p, x = .slice (some ⟨p, 0, none⟩) 1 1 ∧ MatsAt w (some ⟨p, 0, none⟩) 1 1 [mq nm v u 4]
  | 19 => x = .bool (meetsB l [mq nm v u 4])
  | 20 => x = .bool (meetsB l [mq nm v u 0])
  | 21 => x = .bool (meetsB l [mq nm v u 1])
  | 22 => x = .bool (meetsB l [mq nm v u 2])
  | 23 => x = .bool (meetsB l [mq nm v u 3])
  | 24 => x = .bool (meetsB l [mq nm v u 4])
  | _ => True
theorem F10.mono {a : Option Addr} {n c : Nat} {l : List Lab} {nm v u : ByteArray} {w w' : World} (hb : Below w.heap.size w w') (j : Nat) (y : Value) (h : F10 a n c l nm v u j y w) : F10 a n c l nm v u j y w' :=
  match j, h with
  | 0, h => h
  | 1, h => h
  | 2, h => by obtain ⟨p, e, hm⟩ := h; exact ⟨p, e, hm.kept hb⟩
  | 3, h => h
  | 4, h => h
  | 5, h => h
  | 6, h => by obtain ⟨p, e, hm⟩ := h; exact ⟨p, e, hm.kept hb⟩
  | 7, h => h
  | 8, h => h
  | 9, h => h
  | 10, h => by obtain ⟨p, e, hm⟩ := h; exact ⟨p, e, hm.kept hb⟩
  | 11, h => h
  | 12, h => h
  | 13, h => h
  | 14, h => by obtain ⟨p, e, hm⟩ := h; exact ⟨p, e, hm.kept hb⟩
  | 15, h => h
  | 16, h => h
  | 17, h => h
  | 18, h => by obtain ⟨p, e, hm⟩ := h; exact ⟨p, e, hm.kept hb⟩
  | 19, h => h
  | 20, h => h
  | 21, h => h
  | 22, h => h
  | 23, h => h
  | 24, h => h
  | _ + 25, _ => trivial
theorem mats_one (w : World) (m : Mat) (hs : m.1.size ≤ 140737488355328 ∧ m.2.2.size ≤ 140737488355328) : MatsAt (w.alloc (.cells (aggM m) 47)) (some ⟨w.heap.size, 0, none⟩) 1 1 [m] := by
  have hc := mat_cells w 47 (.string m.1) (.int .i64 m.2.1) (.string m.2.2)
  refine ⟨rfl, Nat.le_refl _, by omega, (fun e => by cases e), fun x hx => by rw [List.mem_singleton] at hx; rw [hx]; exact hs, fun _ => ⟨w.heap.size, 0, rfl, by simp, fun i hi => ?_⟩⟩
  obtain rfl : i = 0 := by omega
  exact hc
theorem mats_two (w : World) (m m' : Mat) (hs : m.1.size ≤ 140737488355328 ∧ m.2.2.size ≤ 140737488355328) (hs' : m'.1.size ≤ 140737488355328 ∧ m'.2.2.size ≤ 140737488355328) : MatsAt (w.alloc (.cells #[.string m.1, .int .i64 m.2.1, .string m.2.2, .string m'.1, .int .i64 m'.2.1, .string m'.2.2] 47)) (some ⟨w.heap.size, 0, none⟩) 2 2 [m, m'] := by
  have hblk := heap_alloc_new w (.cells #[.string m.1, .int .i64 m.2.1, .string m.2.2, .string m'.1, .int .i64 m'.2.1, .string m'.2.2] 47)
  refine ⟨rfl, Nat.le_refl _, by omega, (fun e => by cases e), fun x hx => ?_, fun _ => ⟨w.heap.size, 0, rfl, by simp, fun i hi => ?_⟩⟩
  · simp only [List.mem_cons, List.not_mem_nil, or_false] at hx
    rcases hx with rfl | rfl
    · exact hs
    · exact hs'
  · have hi2 : i = 0 ∨ i = 1 := by omega
    rcases hi2 with rfl | rfl
    · exact ⟨by rw [cell_of_row _ _ _ _ _ (0, 0) hblk]; rfl, by rw [cell_of_row _ _ _ _ _ (0, 0) hblk]; rfl, by rw [cell_of_row _ _ _ _ _ (0, 0) hblk]; rfl⟩
    · exact ⟨by rw [cell_of_row _ _ _ _ _ (0, 0) hblk]; rfl, by rw [cell_of_row _ _ _ _ _ (0, 0) hblk]; rfl, by rw [cell_of_row _ _ _ _ _ (0, 0) hblk]; rfl⟩
theorem bool_cases {b0 b1 b2 b3 b4 : Bool} (t1 : (b0 != b1) = true) (t2 : b0 = true → b2 = true) (t3 : b2 = true → b3 = true) (t4 : b3 = true → b4 = true) : (b0 = true ∧ b1 = false ∧ b2 = true ∧ b3 = true ∧ b4 = true) ∨ (b0 = false ∧ b1 = true ∧ b2 = false ∧ b3 = false ∧ b4 = false) ∨ (b0 = false ∧ b1 = true ∧ b2 = false ∧ b3 = false ∧ b4 = true) ∨ (b0 = false ∧ b1 = true ∧ b2 = false ∧ b3 = true ∧ b4 = true) ∨ (b0 = false ∧ b1 = true ∧ b2 = true ∧ b3 = true ∧ b4 = true) := by
  cases b0 <;> cases b1 <;> cases b2 <;> cases b3 <;> cases b4 <;> simp_all
theorem u64_small (x : Int) (h : 0 ≤ x) (h2 : x ≤ 1000) : IntKind.u64.wrap x = x := by
  simp only [IntKind.wrap, IntKind.signed, IntKind.bits]
  simp
  omega
theorem u64_pos (x : Int) : 0 ≤ IntKind.u64.wrap x := by
  simp only [IntKind.wrap, IntKind.signed, IntKind.bits]
  simp
  omega
/-- where the value is cut -/
theorem cut_at (z : Int) (n : Nat) (hn : n ≤ 16) : ∃ k : Nat, k ≤ n ∧ wrap64 ((IntKind.u64.wrap z).tmod ((n : Int) + 1)) = (k : Int) := by
  obtain ⟨y, hy⟩ : ∃ y : Nat, IntKind.u64.wrap z = (y : Int) := ⟨(IntKind.u64.wrap z).toNat, by have := u64_pos z; omega⟩
  refine ⟨y % (n + 1), by have := Nat.mod_lt y (show 0 < n + 1 by omega); omega, ?_⟩
  rw [hy, show ((n : Int) + 1) = ((n + 1 : Nat) : Int) by omega]
  have h1 : ((y : Int)).tmod ((n + 1 : Nat) : Int) = ((y % (n + 1) : Nat) : Int) := rfl
  rw [h1]
  have := Nat.mod_lt y (show 0 < n + 1 by omega)
  exact IntWalk.wrap64_in _ (by omega)
theorem I5.done {w4 w : World} {nm : ByteArray} {way : Int} {v : ByteArray} {L : Nat → Bool} {V : Nat → Value} (h : I5 w4 nm way v L V w) (hall : ∀ i, i < 12 → L i = true) (j : Nat) (h1 : 4 ≤ j) (h2 : j < 8) : ∃ p, V j = .pointer (some ⟨p, 0, none⟩) ∧ w4.heap.size ≤ p ∧ MatBlk w p nm way v := by
  obtain ⟨p, hp, hg, x, y, z, hb, hc⟩ := h.new j h1 h2 (hall j (by omega))
  obtain ⟨rfl, rfl, rfl⟩ := hc (hall (j + 4) (by omega))
  exact ⟨p, hp, hg, hb⟩
theorem I5.two {w4 w : World} {nm : ByteArray} {way : Int} {v : ByteArray} {L : Nat → Bool} {V : Nat → Value} (h : I5 w4 nm way v L V w) (hall : ∀ i, i < 12 → L i = true) (j k : Nat) (h1 : 4 ≤ j) (h2 : j < k) (h3 : k < 8) {p q : Nat} (hp : V j = .pointer (some ⟨p, 0, none⟩)) (hq : V k = .pointer (some ⟨q, 0, none⟩)) : p ≠ q := fun e => by
  subst e
  exact h.apart j k h1 h2 h3 (hall j (by omega)) (hall k (by omega)) (hp.trans hq.symm)
theorem I5.store {w4 w : World} {nm : ByteArray} {way : Int} {v : ByteArray} {L : Nat → Bool} {V : Nat → Value} (h : I5 w4 nm way v L V w) {i : Nat} (hi4 : 4 ≤ i) (hi : i < 8) (hL : L i = true) (hL0 : L (i - 4) = true)
    {o : Oper} {act : Act} {K : Act → World → Prop} {Q : Exit → Act → World → Prop} (x y : Operand) (ho : o.op = .store 47 x y) (hx : act.eval x = V i) (hy : act.eval y = V (i - 4))
    (hK : ∀ w2, I5 w4 nm way v (fun j => L j || decide (j = i + 4)) (upd V (i + 4) undef) w2 → K (act.put o.dst undef) w2) : o.wp Try.prog act w K Q := by
  obtain ⟨p, hp, hge, x0, y0, z0, hb, _⟩ := h.new i hi4 hi hL
  have hv0 := h.load (i - 4) (by omega) hL0
  refine wp_store_row 47 x y ho p #[.string nm, .int .i64 way, .string v] (hx.trans hp) (hy.trans hv0) 47 _ hb (by kernel_rfl) (by rfl) (by simp [Value.oneCell']) ?_
  exact hK _ (h.st hi4 hi hL hp hge (mat_row hb nm way v) (grown_row w p _))
/-- four places in a row, in some order -/
def Four (s p7 p8 p9 p10 : Nat) : Prop := (s ≤ p7 ∧ p7 < s + 4) ∧ (s ≤ p8 ∧ p8 < s + 4) ∧ (s ≤ p9 ∧ p9 < s + 4) ∧ (s ≤ p10 ∧ p10 < s + 4) ∧ p7 ≠ p8 ∧ p7 ≠ p9 ∧ p7 ≠ p10 ∧ p8 ≠ p9 ∧ p8 ≠ p10 ∧ p9 ≠ p10
def FourAt (w w' : World) (nm : ByteArray) (way : Int) (v : ByteArray) : Prop := Below w.heap.size w w' ∧ ∀ p, w.heap.size ≤ p → p < w.heap.size + 4 → MatBlk w' p nm way v
theorem four_at (w : World) (nm : ByteArray) (way : Int) (v : ByteArray) : FourAt w ((((w.alloc (.cells #[.string nm, .int .i64 way, .string v] 47)).alloc (.cells #[.string nm, .int .i64 way, .string v] 47)).alloc (.cells #[.string nm, .int .i64 way, .string v] 47)).alloc (.cells #[.string nm, .int .i64 way, .string v] 47)).drew nm way v := by
  obtain ⟨o, ho⟩ : ∃ o, o = Obj.cells #[.string nm, .int .i64 way, .string v] 47 := ⟨_, rfl⟩
  rw [← ho]
  refine ⟨(((((Below.refl _ _).alloc (Nat.le_refl _) o).alloc (by simp) o).alloc (by simp <;> omega) o).alloc (by simp <;> omega) o).drew, fun p h1 h2 => ?_⟩
  show ((((w.alloc o).alloc o).alloc o).alloc o).heap[p]? = some (.cells #[.string nm, .int .i64 way, .string v] 47 (0, 0))
  have s1 : (w.alloc o).heap.size = w.heap.size + 1 := by simp
  have s2 : ((w.alloc o).alloc o).heap.size = w.heap.size + 2 := by simp
  have s3 : (((w.alloc o).alloc o).alloc o).heap.size = w.heap.size + 3 := by simp
  have hp : p = w.heap.size ∨ p = w.heap.size + 1 ∨ p = w.heap.size + 2 ∨ p = w.heap.size + 3 := by omega
  rw [← ho]
  rcases hp with rfl | rfl | rfl | rfl
  · rw [Below.heap_alloc _ _ _ (by simp <;> omega), Below.heap_alloc _ _ _ (by simp <;> omega), Below.heap_alloc _ _ _ (by simp)]; exact heap_alloc_new w o
  · rw [Below.heap_alloc _ _ _ (by simp <;> omega), Below.heap_alloc _ _ _ (by simp)]; have := heap_alloc_new (w.alloc o) o; rw [s1] at this; exact this
  · rw [Below.heap_alloc _ _ _ (by simp)]; have := heap_alloc_new ((w.alloc o).alloc o) o; rw [s2] at this; exact this
  · have := heap_alloc_new (((w.alloc o).alloc o).alloc o) o; rw [s3] at this; exact this

set_option maxRecDepth 100000 in
set_option maxHeartbeats 4000000 in
theorem label_turns (a : Option Addr) (n c : Nat) (l : List Lab) (nm : ByteArray) (way : Int) (v : ByteArray) (z : Int) (w : World) (h : LabsAt w a n c l) (hm : nm.size ≤ 140737488355328 ∧ v.size ≤ 140737488355328) (hz : (Lit.int .i64 z).wf = true) :
    Calls Try.prog 8 #[.slice a n c, .agg #[.string nm, .int .i64 way, .string v], .int .i64 z] w fun e w' => e = .returned (.bool true) ∧ Below w.heap.size w w' := by
  have HH := Lib.hid h
  have HLV := Lib.hid (fun w1 => lives8_any w1)
  have quit : ∀ w1, Below w.heap.size w w1 → Calls Try.prog 10 #[] w1 fun e w' => e = .returned (.bool true) ∧ Below w.heap.size w w' := fun w1 h1 =>
    (lives8_any w1).mono fun e w' he => ⟨he.1, h1.trans (he.2.mono h1.size)⟩
  have HQ := Lib.hid quit
  obtain ⟨B, hB⟩ : ∃ B, B = w.heap.size := ⟨_, rfl⟩
  obtain ⟨w0, hw0⟩ : ∃ w0, w0 = w.alloc (.cells #[.string nm, .int .i64 way, .string v] 47) := ⟨_, rfl⟩
  have HK0 := Lib.hid (show MatBlk w0 B nm way v by unfold MatBlk; rw [hw0, hB]; exact heap_alloc_new w _)
  have HB0 := Lib.hid (show Below w.heap.size w w0 by rw [hw0]; exact (Below.refl _ _).alloc (Nat.le_refl _) _)
  have HW0 := Lib.hid hw0
  have HBE := Lib.hid hB
  have HZ := Lib.hid hz
  clear h quit hB hw0 hz
  have hv := hm.2
  have hn := hm.1
  clear hm
  cases hf : fewB l with
  | false =>
    have HF := Lib.hid hf
    clear hf
    go_enter Try.func8, Try.ntmps8
    go_wp2_with fail
    rw [← HW0.out, ← HBE.out]
    refine (HLV.out w0).mono ?_
    rintro e w1 ⟨rfl, hb1⟩
    have HB1 := Lib.hid (HB0.out.trans (hb1.mono HB0.out.size))
    have HK1 := Lib.hid (HK0.out.kept hb1)
    clear hb1
    go_wp2_with fail
    refine (few_any (HH.out.kept HB1.out)).mono ?_
    rw [HF.out]
    rintro e w2 ⟨rfl, hb2⟩
    have HB2 := Lib.hid (HB1.out.trans (hb2.mono HB1.out.size))
    have HK2 := Lib.hid (HK1.out.kept hb2)
    clear hb2
    go_wp2_with fail
    refine (HQ.out _ HB2.out).mono ?_
    rintro e w9 ⟨rfl, hb9⟩
    have HB9 := Lib.hid hb9
    clear hb9
    go_wp2_with fail
    go_ret
    exact ⟨rfl, HB9.out⟩
  | true =>
    have HF := Lib.hid hf
    clear hf
    cases hs : isSet l with
    | false =>
      have HS := Lib.hid hs
      clear hs
      go_enter Try.func8, Try.ntmps8
      go_wp2_with fail
      rw [← HW0.out, ← HBE.out]
      refine (HLV.out w0).mono ?_
      rintro e w1 ⟨rfl, hb1⟩
      have HB1 := Lib.hid (HB0.out.trans (hb1.mono HB0.out.size))
      have HK1 := Lib.hid (HK0.out.kept hb1)
      clear hb1
      go_wp2_with fail
      refine (few_any (HH.out.kept HB1.out)).mono ?_
      rw [HF.out]
      rintro e w2 ⟨rfl, hb2⟩
      have HB2 := Lib.hid (HB1.out.trans (hb2.mono HB1.out.size))
      have HK2 := Lib.hid (HK1.out.kept hb2)
      clear hb2
      go_wp2_with fail
      refine (right_any (HH.out.kept HB2.out)).mono ?_
      rw [HS.out]
      rintro e w3 ⟨rfl, hb3⟩
      have HB3 := Lib.hid (HB2.out.trans (hb3.mono HB2.out.size))
      have HK3 := Lib.hid (HK2.out.kept hb3)
      clear hb3
      go_wp2_with fail
      refine (HQ.out _ HB3.out).mono ?_
      rintro e w9 ⟨rfl, hb9⟩
      have HB9 := Lib.hid hb9
      clear hb9
      go_wp2_with fail
      go_ret
      exact ⟨rfl, HB9.out⟩
    | true =>
      have HS := Lib.hid hs
      clear hs
      cases ha : asksB (nm, way, v) with
      | false =>
        have HAS := Lib.hid ha
        clear ha
        go_enter Try.func8, Try.ntmps8
        go_wp2_with fail
        rw [← HW0.out, ← HBE.out]
        refine (HLV.out w0).mono ?_
        rintro e w1 ⟨rfl, hb1⟩
        have HB1 := Lib.hid (HB0.out.trans (hb1.mono HB0.out.size))
        have HK1 := Lib.hid (HK0.out.kept hb1)
        clear hb1
        go_wp2_with fail
        refine (few_any (HH.out.kept HB1.out)).mono ?_
        rw [HF.out]
        rintro e w2 ⟨rfl, hb2⟩
        have HB2 := Lib.hid (HB1.out.trans (hb2.mono HB1.out.size))
        have HK2 := Lib.hid (HK1.out.kept hb2)
        clear hb2
        go_wp2_with fail
        refine (right_any (HH.out.kept HB2.out)).mono ?_
        rw [HS.out]
        rintro e w3 ⟨rfl, hb3⟩
        have HB3 := Lib.hid (HB2.out.trans (hb3.mono HB2.out.size))
        have HK3 := Lib.hid (HK2.out.kept hb3)
        clear hb3
        have e0 := HK3.out.c0
        have e1 := HK3.out.c1
        have e2 := HK3.out.c2
        go_wp2_with fail
        refine (asks_any nm v way hn hv _).mono ?_
        rw [HAS.out]
        rintro e w4 ⟨rfl, hb4⟩
        have HB4 := Lib.hid (HB3.out.trans (hb4.mono HB3.out.size))
        have HK4 := Lib.hid (HK3.out.kept hb4)
        clear hb4 e0 e1 e2
        go_wp2_with fail
        refine (HQ.out _ HB4.out).mono ?_
        rintro e w9 ⟨rfl, hb9⟩
        have HB9 := Lib.hid hb9
        clear hb9
        go_wp2_with fail
        go_ret
        exact ⟨rfl, HB9.out⟩
      | true =>
        have HAS := Lib.hid ha
        by_cases h4 : way = 4
        · have hq4 : (way == 4) = true := by rw [beq_iff_eq]; exact h4
          have HVE := Lib.hid (show v = { data := #[] } by
            unfold asksB at ha
            simp only [h4, Bool.and_eq_true, Bool.or_eq_true, decide_eq_true_eq] at ha
            rcases ha.2 with h | h
            · omega
            · exact h.2)
          clear ha h4
          go_enter Try.func8, Try.ntmps8
          go_wp2_with fail
          rw [← HW0.out, ← HBE.out]
          refine (HLV.out w0).mono ?_
          rintro e w1 ⟨rfl, hb1⟩
          have HB1 := Lib.hid (HB0.out.trans (hb1.mono HB0.out.size))
          have HK1 := Lib.hid (HK0.out.kept hb1)
          clear hb1
          go_wp2_with fail
          refine (few_any (HH.out.kept HB1.out)).mono ?_
          rw [HF.out]
          rintro e w2 ⟨rfl, hb2⟩
          have HB2 := Lib.hid (HB1.out.trans (hb2.mono HB1.out.size))
          have HK2 := Lib.hid (HK1.out.kept hb2)
          clear hb2
          go_wp2_with fail
          refine (right_any (HH.out.kept HB2.out)).mono ?_
          rw [HS.out]
          rintro e w3 ⟨rfl, hb3⟩
          have HB3 := Lib.hid (HB2.out.trans (hb3.mono HB2.out.size))
          have HK3 := Lib.hid (HK2.out.kept hb3)
          clear hb3
          have e0 := HK3.out.c0
          have e1 := HK3.out.c1
          have e2 := HK3.out.c2
          go_wp2_with fail
          refine (asks_any nm v way hn hv _).mono ?_
          rw [HAS.out]
          rintro e w4 ⟨rfl, hb4⟩
          have HB4 := Lib.hid (HB3.out.trans (hb4.mono HB3.out.size))
          have HK4 := Lib.hid (HK3.out.kept hb4)
          clear hb4 e0 e1 e2
          have e0 := HK4.out.c0
          have e1 := HK4.out.c1
          have e2 := HK4.out.c2
          have ef2 := HK4.out.f 2
          go_upto_region 5 with fail
          obtain ⟨wx, hwx⟩ : ∃ wx, wx = w4.setCell ⟨B, 2, none⟩ (.string { data := #[] }) := ⟨_, rfl⟩
          have HKx := Lib.hid (show MatBlk wx B nm way v by rw [hwx, HVE.out]; exact HK4.out.set2 { data := #[] })
          have HBx := Lib.hid (show Below w.heap.size w wx by rw [hwx]; exact HB4.out.setCell (p := ⟨B, 2, none⟩) (Nat.le_of_eq HBE.out.symm) _)
          rw [← hwx]
          clear hwx e0 e1 e2 ef2
          have e0 := HKx.out.c0
          have e1 := HKx.out.c1
          have e2 := HKx.out.c2
          have ef2 := HKx.out.f 2
          refine wp_region_inv (by kernel_rfl) (by kernel_rfl) (by kernel_rfl) (I5 wx nm way v) (fun V => I5.start wx nm way v V) ?_ ?_
          · intro i o ho L V w5 K hI hL hdep hK
            have hbe := hI.below
            have c0 := (HKx.out.kept hbe).c0
            have c1 := (HKx.out.kept hbe).c1
            have c2 := (HKx.out.kept hbe).c2
            have hi12 : i < 12 := (Array.getElem?_eq_some_iff.1 ho).1
            have hcs : i = 0 ∨ i = 1 ∨ i = 2 ∨ i = 3 ∨ i = 4 ∨ i = 5 ∨ i = 6 ∨ i = 7 ∨ i = 8 ∨ i = 9 ∨ i = 10 ∨ i = 11 := by omega
            rcases hcs with rfl | rfl | rfl | rfl | rfl | rfl | rfl | rfl | rfl | rfl | rfl | rfl
            · obtain rfl := Option.some.inj ho.symm
              have HI := Lib.hid (hI.ld (i := 0) (by omega))
              clear hI hL hdep ho hbe
              simp only [fill, slotOf, List.size_toArray, List.length_cons, List.length_nil, Nat.reduceAdd, List.getElem?_toArray, List.getElem?_cons_zero, List.getElem?_cons_succ, Option.bind_some, Act.put, List.setIfInBounds_toArray, List.set_cons_zero, List.set_cons_succ] at hK ⊢
              go_simp
              exact hK _ _ HI.out _ rfl
            · obtain rfl := Option.some.inj ho.symm
              have HI := Lib.hid (hI.ld (i := 1) (by omega))
              clear hI hL hdep ho hbe
              simp only [fill, slotOf, List.size_toArray, List.length_cons, List.length_nil, Nat.reduceAdd, List.getElem?_toArray, List.getElem?_cons_zero, List.getElem?_cons_succ, Option.bind_some, Act.put, List.setIfInBounds_toArray, List.set_cons_zero, List.set_cons_succ] at hK ⊢
              go_simp
              exact hK _ _ HI.out _ rfl
            · obtain rfl := Option.some.inj ho.symm
              have HI := Lib.hid (hI.ld (i := 2) (by omega))
              clear hI hL hdep ho hbe
              simp only [fill, slotOf, List.size_toArray, List.length_cons, List.length_nil, Nat.reduceAdd, List.getElem?_toArray, List.getElem?_cons_zero, List.getElem?_cons_succ, Option.bind_some, Act.put, List.setIfInBounds_toArray, List.set_cons_zero, List.set_cons_succ] at hK ⊢
              go_simp
              exact hK _ _ HI.out _ rfl
            · obtain rfl := Option.some.inj ho.symm
              have HI := Lib.hid (hI.ld (i := 3) (by omega))
              clear hI hL hdep ho hbe
              simp only [fill, slotOf, List.size_toArray, List.length_cons, List.length_nil, Nat.reduceAdd, List.getElem?_toArray, List.getElem?_cons_zero, List.getElem?_cons_succ, Option.bind_some, Act.put, List.setIfInBounds_toArray, List.set_cons_zero, List.set_cons_succ] at hK ⊢
              go_simp
              exact hK _ _ HI.out _ rfl
            · obtain rfl := Option.some.inj ho.symm
              have HI := Lib.hid (hI.al (i := 4) (by omega) (by omega) hL (bt0) 0 (bt0))
              clear hI hL hdep ho hbe c0 c1 c2
              simp only [fill, slotOf, List.size_toArray, List.length_cons, List.length_nil, Nat.reduceAdd, List.getElem?_toArray, List.getElem?_cons_zero, List.getElem?_cons_succ, Option.bind_some, Act.put, List.setIfInBounds_toArray, List.set_cons_zero, List.set_cons_succ] at hK ⊢
              go_simp
              exact hK _ _ HI.out _ rfl
            · obtain rfl := Option.some.inj ho.symm
              have HI := Lib.hid (hI.al (i := 5) (by omega) (by omega) hL (bt0) 0 (bt0))
              clear hI hL hdep ho hbe c0 c1 c2
              simp only [fill, slotOf, List.size_toArray, List.length_cons, List.length_nil, Nat.reduceAdd, List.getElem?_toArray, List.getElem?_cons_zero, List.getElem?_cons_succ, Option.bind_some, Act.put, List.setIfInBounds_toArray, List.set_cons_zero, List.set_cons_succ] at hK ⊢
              go_simp
              exact hK _ _ HI.out _ rfl
            · obtain rfl := Option.some.inj ho.symm
              have HI := Lib.hid (hI.al (i := 6) (by omega) (by omega) hL (bt0) 0 (bt0))
              clear hI hL hdep ho hbe c0 c1 c2
              simp only [fill, slotOf, List.size_toArray, List.length_cons, List.length_nil, Nat.reduceAdd, List.getElem?_toArray, List.getElem?_cons_zero, List.getElem?_cons_succ, Option.bind_some, Act.put, List.setIfInBounds_toArray, List.set_cons_zero, List.set_cons_succ] at hK ⊢
              go_simp
              exact hK _ _ HI.out _ rfl
            · obtain rfl := Option.some.inj ho.symm
              have HI := Lib.hid (hI.al (i := 7) (by omega) (by omega) hL (bt0) 0 (bt0))
              clear hI hL hdep ho hbe c0 c1 c2
              simp only [fill, slotOf, List.size_toArray, List.length_cons, List.length_nil, Nat.reduceAdd, List.getElem?_toArray, List.getElem?_cons_zero, List.getElem?_cons_succ, Option.bind_some, Act.put, List.setIfInBounds_toArray, List.set_cons_zero, List.set_cons_succ] at hK ⊢
              go_simp
              exact hK _ _ HI.out _ rfl
            · obtain rfl := Option.some.inj ho.symm
              have hlj : L 4 = true := hdep ⟨4, .data⟩ (by simp) rfl
              have hl0 : L 0 = true := hdep ⟨0, .data⟩ (by simp) rfl
              simp only [fill, slotOf, List.size_toArray, List.length_cons, List.length_nil, Nat.reduceAdd, List.getElem?_toArray, List.getElem?_cons_zero, List.getElem?_cons_succ, Option.bind_some, Act.put, List.setIfInBounds_toArray, List.set_cons_zero, List.set_cons_succ] at hK ⊢
              simp only [Region.wanted]
              refine I5.store (i := 4) hI (by decide) (by decide) hlj hl0 (.tmp 7) (.tmp 39) rfl rfl rfl (fun w2 h2 => hK undef w2 h2 _ rfl)
            · obtain rfl := Option.some.inj ho.symm
              have hlj : L 5 = true := hdep ⟨5, .data⟩ (by simp) rfl
              have hl0 : L 1 = true := hdep ⟨1, .data⟩ (by simp) rfl
              simp only [fill, slotOf, List.size_toArray, List.length_cons, List.length_nil, Nat.reduceAdd, List.getElem?_toArray, List.getElem?_cons_zero, List.getElem?_cons_succ, Option.bind_some, Act.put, List.setIfInBounds_toArray, List.set_cons_zero, List.set_cons_succ] at hK ⊢
              simp only [Region.wanted]
              refine I5.store (i := 5) hI (by decide) (by decide) hlj hl0 (.tmp 8) (.tmp 40) rfl rfl rfl (fun w2 h2 => hK undef w2 h2 _ rfl)
            · obtain rfl := Option.some.inj ho.symm
              have hlj : L 6 = true := hdep ⟨6, .data⟩ (by simp) rfl
              have hl0 : L 2 = true := hdep ⟨2, .data⟩ (by simp) rfl
              simp only [fill, slotOf, List.size_toArray, List.length_cons, List.length_nil, Nat.reduceAdd, List.getElem?_toArray, List.getElem?_cons_zero, List.getElem?_cons_succ, Option.bind_some, Act.put, List.setIfInBounds_toArray, List.set_cons_zero, List.set_cons_succ] at hK ⊢
              simp only [Region.wanted]
              refine I5.store (i := 6) hI (by decide) (by decide) hlj hl0 (.tmp 9) (.tmp 41) rfl rfl rfl (fun w2 h2 => hK undef w2 h2 _ rfl)
            · obtain rfl := Option.some.inj ho.symm
              have hlj : L 7 = true := hdep ⟨7, .data⟩ (by simp) rfl
              have hl0 : L 3 = true := hdep ⟨3, .data⟩ (by simp) rfl
              simp only [fill, slotOf, List.size_toArray, List.length_cons, List.length_nil, Nat.reduceAdd, List.getElem?_toArray, List.getElem?_cons_zero, List.getElem?_cons_succ, Option.bind_some, Act.put, List.setIfInBounds_toArray, List.set_cons_zero, List.set_cons_succ] at hK ⊢
              simp only [Region.wanted]
              refine I5.store (i := 7) hI (by decide) (by decide) hlj hl0 (.tmp 10) (.tmp 42) rfl rfl rfl (fun w2 h2 => hK undef w2 h2 _ rfl)
          · intro L V w5 hI hall
            obtain ⟨p7, hp7, hg7, k7⟩ := I5.done hI hall 4 (by decide) (by decide)
            obtain ⟨p8, hp8, hg8, k8⟩ := I5.done hI hall 5 (by decide) (by decide)
            obtain ⟨p9, hp9, hg9, k9⟩ := I5.done hI hall 6 (by decide) (by decide)
            obtain ⟨p10, hp10, hg10, k10⟩ := I5.done hI hall 7 (by decide) (by decide)
            have n78 : p7 ≠ p8 := I5.two hI hall 4 5 (by decide) (by decide) (by decide) hp7 hp8
            have n79 : p7 ≠ p9 := I5.two hI hall 4 6 (by decide) (by decide) (by decide) hp7 hp9
            have n710 : p7 ≠ p10 := I5.two hI hall 4 7 (by decide) (by decide) (by decide) hp7 hp10
            have n89 : p8 ≠ p9 := I5.two hI hall 5 6 (by decide) (by decide) (by decide) hp8 hp9
            have n810 : p8 ≠ p10 := I5.two hI hall 5 7 (by decide) (by decide) (by decide) hp8 hp10
            have n910 : p9 ≠ p10 := I5.two hI hall 6 7 (by decide) (by decide) (by decide) hp9 hp10
            have HB5 := Lib.hid (HBx.out.trans (hI.below.mono HBx.out.size))
            simp only [fill, slotOf, List.size_toArray, List.length_cons, List.length_nil, Nat.reduceAdd, List.getElem?_toArray, List.getElem?_cons_zero, List.getElem?_cons_succ, Option.bind_some, Act.put, List.setIfInBounds_toArray, List.set_cons_zero, List.set_cons_succ]
            rw [hp7, hp8, hp9, hp10]
            have HG := Lib.hid (And.intro hg7 (And.intro hg8 (And.intro hg9 hg10)))
            have HN := Lib.hid (And.intro n78 (And.intro n79 (And.intro n710 (And.intro n89 (And.intro n810 n910)))))
            have K7 := Lib.hid k7
            have K8 := Lib.hid k8
            have K9 := Lib.hid k9
            have K10 := Lib.hid k10
            clear hI hall hp7 hp8 hp9 hp10 hg7 hg8 hg9 hg10 k7 k8 k9 k10 n78 n79 n710 n89 n810 n910 e0 e1 e2 ef2
            have hv16 : v.size ≤ 16 := by have := HAS.out; unfold asksB at this; simp only [Bool.and_eq_true, decide_eq_true_eq] at this; exact this.1.2
            have n78 := HN.out.1
            have n79 := HN.out.2.1
            have n710 := HN.out.2.2.1
            have n89 := HN.out.2.2.2.1
            have n810 := HN.out.2.2.2.2.1
            have n910 := HN.out.2.2.2.2.2
            have a7 := K7.out.c1
            have b7 := K7.out.f 1
            have HA := Lib.hid (K7.out.set1 1)
            have A8 := Lib.hid (K8.out.other (j := 1) (Ne.symm n78) (.int .i64 1))
            have A9 := Lib.hid (K9.out.other (j := 1) (Ne.symm n79) (.int .i64 1))
            have A10 := Lib.hid (K10.out.other (j := 1) (Ne.symm n710) (.int .i64 1))
            have a8 := A8.out.c1
            have b8 := A8.out.f 1
            have B7 := Lib.hid (HA.out.other (j := 1) n78 (.int .i64 2))
            have B8 := Lib.hid (A8.out.set1 2)
            have B9 := Lib.hid (A9.out.other (j := 1) (Ne.symm n89) (.int .i64 2))
            have B10 := Lib.hid (A10.out.other (j := 1) (Ne.symm n810) (.int .i64 2))
            have a9 := B9.out.c1
            have b9 := B9.out.f 1
            have C7 := Lib.hid (B7.out.other (j := 1) n79 (.int .i64 3))
            have C8 := Lib.hid (B8.out.other (j := 1) n89 (.int .i64 3))
            have C9 := Lib.hid (B9.out.set1 3)
            have C10 := Lib.hid (B10.out.other (j := 1) (Ne.symm n910) (.int .i64 3))
            have a10 := C10.out.c1
            have b10 := C10.out.f 1
            have D7 := Lib.hid (C7.out.other (j := 1) n710 (.int .i64 4))
            have D8 := Lib.hid (C8.out.other (j := 1) n810 (.int .i64 4))
            have D9 := Lib.hid (C9.out.other (j := 1) n910 (.int .i64 4))
            have D10 := Lib.hid (C10.out.set1 4)
            have a11 := D10.out.c2
            have b11 := D10.out.f 2
            have E7 := Lib.hid (D7.out.other (j := 2) n710 (.string { data := #[] }))
            have E8 := Lib.hid (D8.out.other (j := 2) n810 (.string { data := #[] }))
            have E9 := Lib.hid (D9.out.other (j := 2) n910 (.string { data := #[] }))
            have E10 := Lib.hid (D10.out.set2 { data := #[] })
            obtain ⟨wE, hwE⟩ : ∃ wE, wE = ((((w5.setCell ⟨p7, 1, none⟩ (.int .i64 1)).setCell ⟨p8, 1, none⟩ (.int .i64 2)).setCell ⟨p9, 1, none⟩ (.int .i64 3)).setCell ⟨p10, 1, none⟩ (.int .i64 4)).setCell ⟨p10, 2, none⟩ (.string { data := #[] }) := ⟨_, rfl⟩
            rw [← hwE] at E7 E8 E9 E10
            have hsw : w.heap.size ≤ wx.heap.size := HBx.out.size
            have HBE2 := Lib.hid (show Below w.heap.size w wE by
              rw [hwE]
              have g := HG.out
              exact ((((HB5.out.setCell (p := ⟨p7, 1, none⟩) (Nat.le_trans hsw g.1) _).setCell (p := ⟨p8, 1, none⟩) (Nat.le_trans hsw g.2.1) _).setCell (p := ⟨p9, 1, none⟩) (Nat.le_trans hsw g.2.2.1) _).setCell (p := ⟨p10, 1, none⟩) (Nat.le_trans hsw g.2.2.2) _).setCell (p := ⟨p10, 2, none⟩) (Nat.le_trans hsw g.2.2.2) _)
            have HWE := Lib.hid hwE
            clear hwE HA A8 A9 A10 B7 B8 B9 B10 C7 C8 C9 C10 D7 D8 D9 D10
            go_upto_region 8 with fail
            rw [← HWE.out]
            clear a7 b7 a8 b8 a9 b9 a10 b10 a11 b11
            have m0 := E9.out.c0
            have m1 := E9.out.c1
            have m2 := E9.out.c2
            go_upto_region 9 with fail
            have q2 := alloc1 m2 (.cells #[.string nm, .int .i64 3, .string v] 47)
            have hvs : (v.size : Int) ≤ 16 := by omega
            have hvw : IntKind.i64.wrap ((v.size : Int) + 1) = (v.size : Int) + 1 := IntWalk.i64_in _ (by omega)
            obtain ⟨k, hkv, hkw⟩ := cut_at z v.size hv16
            have hk1 : (k : Int) ≤ (v.size : Int) := by omega
            have hk0 : (0 : Int) ≤ (k : Int) := by omega
            have hu0 : ¬ IntKind.u64.wrap ((v.size : Int) + 1) = 0 := by rw [u64_small _ (by omega) (by omega)]; omega
            have hu1 : IntKind.u64.wrap ((v.size : Int) + 1) = (v.size : Int) + 1 := u64_small _ (by omega) (by omega)
            go_region
            obtain ⟨u, hu⟩ : ∃ u, u = v.extract 0 k := ⟨_, rfl⟩
            rw [← hu]
            have hus : u.size ≤ 16 := by rw [hu]; simp; omega
            have HU := Lib.hid hu
            clear hu hkw hu0 hu1 hk1 hk0 hvw q2 m0 m1 m2 hvs
            obtain ⟨p11, hp11⟩ : ∃ p11, p11 = wE.heap.size := ⟨_, rfl⟩
            obtain ⟨wG, hwG⟩ : ∃ wG, wG = (wE.alloc (.cells #[.string nm, .int .i64 3, .string u] 47)).drew := ⟨_, rfl⟩
            have hbG : Below wE.heap.size wE wG := by rw [hwG]; exact ((Below.refl _ _).alloc (Nat.le_refl _) _).drew
            have G7 := Lib.hid (E7.out.kept hbG)
            have G8 := Lib.hid (E8.out.kept hbG)
            have G9 := Lib.hid (E9.out.kept hbG)
            have G10 := Lib.hid (E10.out.kept hbG)
            have G11 := Lib.hid (show MatBlk wG p11 nm 3 u by rw [hwG, hp11]; exact heap_alloc_new wE _)
            have HBG := Lib.hid (HBE2.out.trans (hbG.mono HBE2.out.size))
            have HHG := Lib.hid (HH.out.kept HBG.out)
            have HSZ := Lib.hid (show ∀ q, (mq nm v u q).1.size ≤ 140737488355328 ∧ (mq nm v u q).2.2.size ≤ 140737488355328 from fun q => by
              rcases q with _ | _ | _ | _ | q <;> exact ⟨hn, by first | (show v.size ≤ _; omega) | (show u.size ≤ _; omega) | (show (0 : Nat) ≤ _; omega)⟩)
            rw [← hwG, ← hp11]
            have HWG := Lib.hid hwG
            have HP11 := Lib.hid hp11
            clear hwG hp11 hbG
            go_upto_region 10 with fail
            refine wp_region_fill (by kernel_rfl) (by kernel_rfl) (by kernel_rfl) (fun w' => Below wG.heap.size wG w') (F10 a n c l nm v u) ((Below.refl _ _).drew) ?_ ?_
            · intro i o ho V w5 K hJ hdep hK
              have HJ := Lib.hid hJ
              have hi25 : i < 25 := (Array.getElem?_eq_some_iff.1 ho).1
              have hcs : i = 0 ∨ i = 1 ∨ i = 2 ∨ i = 3 ∨ i = 4 ∨ i = 5 ∨ i = 6 ∨ i = 7 ∨ i = 8 ∨ i = 9 ∨ i = 10 ∨ i = 11 ∨ i = 12 ∨ i = 13 ∨ i = 14 ∨ i = 15 ∨ i = 16 ∨ i = 17 ∨ i = 18 ∨ i = 19 ∨ i = 20 ∨ i = 21 ∨ i = 22 ∨ i = 23 ∨ i = 24 := by omega
              rcases hcs with rfl | rfl | rfl | rfl | rfl | rfl | rfl | rfl | rfl | rfl | rfl | rfl | rfl | rfl | rfl | rfl | rfl | rfl | rfl | rfl | rfl | rfl | rfl | rfl | rfl
              · obtain rfl := Option.some.inj ho.symm
                clear hdep ho hJ
                simp only [fill, slotOf, List.size_toArray, List.length_cons, List.length_nil, Nat.reduceAdd, List.getElem?_toArray, List.getElem?_cons_zero, List.getElem?_cons_succ, Option.bind_some, Act.put, List.setIfInBounds_toArray, List.set_cons_zero, List.set_cons_succ] at hK ⊢
                go_simp
                exact hK _ _ HJ.out rfl (fun j y h => h) _ rfl
              · obtain rfl := Option.some.inj ho.symm
                have c0 := (G7.out.kept hJ).c0
                have c1 := (G7.out.kept hJ).c1
                have c2 := (G7.out.kept hJ).c2
                clear hdep ho hJ
                simp only [fill, slotOf, List.size_toArray, List.length_cons, List.length_nil, Nat.reduceAdd, List.getElem?_toArray, List.getElem?_cons_zero, List.getElem?_cons_succ, Option.bind_some, Act.put, List.setIfInBounds_toArray, List.set_cons_zero, List.set_cons_succ] at hK ⊢
                go_simp
                exact hK _ _ HJ.out rfl (fun j y h => h) _ rfl
              · obtain rfl := Option.some.inj ho.symm
                have h1 : V 1 = .agg (aggM (mq nm v u 0)) := hdep ⟨1, .data⟩ (by simp) rfl
                have HM := Lib.hid (mats_one w5 (mq nm v u 0) (HSZ.out _))
                have HBL := Lib.hid (show Below w5.heap.size w5 (w5.alloc (.cells (aggM (mq nm v u 0)) 47)) from (Below.refl _ _).alloc (Nat.le_refl _) _)
                have HJ2 := Lib.hid (HJ.out.alloc HJ.out.size (.cells (aggM (mq nm v u 0)) 47))
                clear hdep ho hJ
                simp only [fill, slotOf, List.size_toArray, List.length_cons, List.length_nil, Nat.reduceAdd, List.getElem?_toArray, List.getElem?_cons_zero, List.getElem?_cons_succ, Option.bind_some, Act.put, List.setIfInBounds_toArray, List.set_cons_zero, List.set_cons_succ] at hK ⊢
                rw [h1]
                go_simp
                exact hK _ _ HJ2.out ⟨_, rfl, HM.out⟩ (F10.mono HBL.out) _ (by rw [h1]; rfl)
              · obtain rfl := Option.some.inj ho.symm
                have h1 : V 0 = .slice a n c := hdep ⟨0, .data⟩ (by simp) rfl
                obtain ⟨p, h2, hm⟩ : ∃ p, V 2 = .slice (some ⟨p, 0, none⟩) 1 1 ∧ MatsAt w5 (some ⟨p, 0, none⟩) 1 1 [mq nm v u 0] := hdep ⟨2, .data⟩ (by simp) rfl
                have HME := Lib.hid (meets_any ((HHG.out.kept HJ.out)) hm)
                clear hdep ho hJ hm
                simp only [fill, slotOf, List.size_toArray, List.length_cons, List.length_nil, Nat.reduceAdd, List.getElem?_toArray, List.getElem?_cons_zero, List.getElem?_cons_succ, Option.bind_some, Act.put, List.setIfInBounds_toArray, List.set_cons_zero, List.set_cons_succ] at hK ⊢
                rw [h1, h2]
                go_simp
                refine HME.out.mono ?_
                rintro e w6 ⟨rfl, hb6⟩
                exact hK _ _ (HJ.out.trans (hb6.mono HJ.out.size)) rfl (F10.mono hb6) _ (by rw [h1, h2]; rfl)
              · obtain rfl := Option.some.inj ho.symm
                clear hdep ho hJ
                simp only [fill, slotOf, List.size_toArray, List.length_cons, List.length_nil, Nat.reduceAdd, List.getElem?_toArray, List.getElem?_cons_zero, List.getElem?_cons_succ, Option.bind_some, Act.put, List.setIfInBounds_toArray, List.set_cons_zero, List.set_cons_succ] at hK ⊢
                go_simp
                exact hK _ _ HJ.out rfl (fun j y h => h) _ rfl
              · obtain rfl := Option.some.inj ho.symm
                have c0 := (G8.out.kept hJ).c0
                have c1 := (G8.out.kept hJ).c1
                have c2 := (G8.out.kept hJ).c2
                clear hdep ho hJ
                simp only [fill, slotOf, List.size_toArray, List.length_cons, List.length_nil, Nat.reduceAdd, List.getElem?_toArray, List.getElem?_cons_zero, List.getElem?_cons_succ, Option.bind_some, Act.put, List.setIfInBounds_toArray, List.set_cons_zero, List.set_cons_succ] at hK ⊢
                go_simp
                exact hK _ _ HJ.out rfl (fun j y h => h) _ rfl
              · obtain rfl := Option.some.inj ho.symm
                have h1 : V 5 = .agg (aggM (mq nm v u 1)) := hdep ⟨5, .data⟩ (by simp) rfl
                have HM := Lib.hid (mats_one w5 (mq nm v u 1) (HSZ.out _))
                have HBL := Lib.hid (show Below w5.heap.size w5 (w5.alloc (.cells (aggM (mq nm v u 1)) 47)) from (Below.refl _ _).alloc (Nat.le_refl _) _)
                have HJ2 := Lib.hid (HJ.out.alloc HJ.out.size (.cells (aggM (mq nm v u 1)) 47))
                clear hdep ho hJ
                simp only [fill, slotOf, List.size_toArray, List.length_cons, List.length_nil, Nat.reduceAdd, List.getElem?_toArray, List.getElem?_cons_zero, List.getElem?_cons_succ, Option.bind_some, Act.put, List.setIfInBounds_toArray, List.set_cons_zero, List.set_cons_succ] at hK ⊢
                rw [h1]
                go_simp
                exact hK _ _ HJ2.out ⟨_, rfl, HM.out⟩ (F10.mono HBL.out) _ (by rw [h1]; rfl)
              · obtain rfl := Option.some.inj ho.symm
                have h1 : V 4 = .slice a n c := hdep ⟨4, .data⟩ (by simp) rfl
                obtain ⟨p, h2, hm⟩ : ∃ p, V 6 = .slice (some ⟨p, 0, none⟩) 1 1 ∧ MatsAt w5 (some ⟨p, 0, none⟩) 1 1 [mq nm v u 1] := hdep ⟨6, .data⟩ (by simp) rfl
                have HME := Lib.hid (meets_any ((HHG.out.kept HJ.out)) hm)
                clear hdep ho hJ hm
                simp only [fill, slotOf, List.size_toArray, List.length_cons, List.length_nil, Nat.reduceAdd, List.getElem?_toArray, List.getElem?_cons_zero, List.getElem?_cons_succ, Option.bind_some, Act.put, List.setIfInBounds_toArray, List.set_cons_zero, List.set_cons_succ] at hK ⊢
                rw [h1, h2]
                go_simp
                refine HME.out.mono ?_
                rintro e w6 ⟨rfl, hb6⟩
                exact hK _ _ (HJ.out.trans (hb6.mono HJ.out.size)) rfl (F10.mono hb6) _ (by rw [h1, h2]; rfl)
              · obtain rfl := Option.some.inj ho.symm
                clear hdep ho hJ
                simp only [fill, slotOf, List.size_toArray, List.length_cons, List.length_nil, Nat.reduceAdd, List.getElem?_toArray, List.getElem?_cons_zero, List.getElem?_cons_succ, Option.bind_some, Act.put, List.setIfInBounds_toArray, List.set_cons_zero, List.set_cons_succ] at hK ⊢
                go_simp
                exact hK _ _ HJ.out rfl (fun j y h => h) _ rfl
              · obtain rfl := Option.some.inj ho.symm
                have c0 := (G9.out.kept hJ).c0
                have c1 := (G9.out.kept hJ).c1
                have c2 := (G9.out.kept hJ).c2
                clear hdep ho hJ
                simp only [fill, slotOf, List.size_toArray, List.length_cons, List.length_nil, Nat.reduceAdd, List.getElem?_toArray, List.getElem?_cons_zero, List.getElem?_cons_succ, Option.bind_some, Act.put, List.setIfInBounds_toArray, List.set_cons_zero, List.set_cons_succ] at hK ⊢
                go_simp
                exact hK _ _ HJ.out rfl (fun j y h => h) _ rfl
              · obtain rfl := Option.some.inj ho.symm
                have h1 : V 9 = .agg (aggM (mq nm v u 2)) := hdep ⟨9, .data⟩ (by simp) rfl
                have HM := Lib.hid (mats_one w5 (mq nm v u 2) (HSZ.out _))
                have HBL := Lib.hid (show Below w5.heap.size w5 (w5.alloc (.cells (aggM (mq nm v u 2)) 47)) from (Below.refl _ _).alloc (Nat.le_refl _) _)
                have HJ2 := Lib.hid (HJ.out.alloc HJ.out.size (.cells (aggM (mq nm v u 2)) 47))
                clear hdep ho hJ
                simp only [fill, slotOf, List.size_toArray, List.length_cons, List.length_nil, Nat.reduceAdd, List.getElem?_toArray, List.getElem?_cons_zero, List.getElem?_cons_succ, Option.bind_some, Act.put, List.setIfInBounds_toArray, List.set_cons_zero, List.set_cons_succ] at hK ⊢
                rw [h1]
                go_simp
                exact hK _ _ HJ2.out ⟨_, rfl, HM.out⟩ (F10.mono HBL.out) _ (by rw [h1]; rfl)
              · obtain rfl := Option.some.inj ho.symm
                have h1 : V 8 = .slice a n c := hdep ⟨8, .data⟩ (by simp) rfl
                obtain ⟨p, h2, hm⟩ : ∃ p, V 10 = .slice (some ⟨p, 0, none⟩) 1 1 ∧ MatsAt w5 (some ⟨p, 0, none⟩) 1 1 [mq nm v u 2] := hdep ⟨10, .data⟩ (by simp) rfl
                have HME := Lib.hid (meets_any ((HHG.out.kept HJ.out)) hm)
                clear hdep ho hJ hm
                simp only [fill, slotOf, List.size_toArray, List.length_cons, List.length_nil, Nat.reduceAdd, List.getElem?_toArray, List.getElem?_cons_zero, List.getElem?_cons_succ, Option.bind_some, Act.put, List.setIfInBounds_toArray, List.set_cons_zero, List.set_cons_succ] at hK ⊢
                rw [h1, h2]
                go_simp
                refine HME.out.mono ?_
                rintro e w6 ⟨rfl, hb6⟩
                exact hK _ _ (HJ.out.trans (hb6.mono HJ.out.size)) rfl (F10.mono hb6) _ (by rw [h1, h2]; rfl)
              · obtain rfl := Option.some.inj ho.symm
                clear hdep ho hJ
                simp only [fill, slotOf, List.size_toArray, List.length_cons, List.length_nil, Nat.reduceAdd, List.getElem?_toArray, List.getElem?_cons_zero, List.getElem?_cons_succ, Option.bind_some, Act.put, List.setIfInBounds_toArray, List.set_cons_zero, List.set_cons_succ] at hK ⊢
                go_simp
                exact hK _ _ HJ.out rfl (fun j y h => h) _ rfl
              · obtain rfl := Option.some.inj ho.symm
                have c0 := (G11.out.kept hJ).c0
                have c1 := (G11.out.kept hJ).c1
                have c2 := (G11.out.kept hJ).c2
                clear hdep ho hJ
                simp only [fill, slotOf, List.size_toArray, List.length_cons, List.length_nil, Nat.reduceAdd, List.getElem?_toArray, List.getElem?_cons_zero, List.getElem?_cons_succ, Option.bind_some, Act.put, List.setIfInBounds_toArray, List.set_cons_zero, List.set_cons_succ] at hK ⊢
                go_simp
                exact hK _ _ HJ.out rfl (fun j y h => h) _ rfl
              · obtain rfl := Option.some.inj ho.symm
                have h1 : V 13 = .agg (aggM (mq nm v u 3)) := hdep ⟨13, .data⟩ (by simp) rfl
                have HM := Lib.hid (mats_one w5 (mq nm v u 3) (HSZ.out _))
                have HBL := Lib.hid (show Below w5.heap.size w5 (w5.alloc (.cells (aggM (mq nm v u 3)) 47)) from (Below.refl _ _).alloc (Nat.le_refl _) _)
                have HJ2 := Lib.hid (HJ.out.alloc HJ.out.size (.cells (aggM (mq nm v u 3)) 47))
                clear hdep ho hJ
                simp only [fill, slotOf, List.size_toArray, List.length_cons, List.length_nil, Nat.reduceAdd, List.getElem?_toArray, List.getElem?_cons_zero, List.getElem?_cons_succ, Option.bind_some, Act.put, List.setIfInBounds_toArray, List.set_cons_zero, List.set_cons_succ] at hK ⊢
                rw [h1]
                go_simp
                exact hK _ _ HJ2.out ⟨_, rfl, HM.out⟩ (F10.mono HBL.out) _ (by rw [h1]; rfl)
              · obtain rfl := Option.some.inj ho.symm
                have h1 : V 12 = .slice a n c := hdep ⟨12, .data⟩ (by simp) rfl
                obtain ⟨p, h2, hm⟩ : ∃ p, V 14 = .slice (some ⟨p, 0, none⟩) 1 1 ∧ MatsAt w5 (some ⟨p, 0, none⟩) 1 1 [mq nm v u 3] := hdep ⟨14, .data⟩ (by simp) rfl
                have HME := Lib.hid (meets_any ((HHG.out.kept HJ.out)) hm)
                clear hdep ho hJ hm
                simp only [fill, slotOf, List.size_toArray, List.length_cons, List.length_nil, Nat.reduceAdd, List.getElem?_toArray, List.getElem?_cons_zero, List.getElem?_cons_succ, Option.bind_some, Act.put, List.setIfInBounds_toArray, List.set_cons_zero, List.set_cons_succ] at hK ⊢
                rw [h1, h2]
                go_simp
                refine HME.out.mono ?_
                rintro e w6 ⟨rfl, hb6⟩
                exact hK _ _ (HJ.out.trans (hb6.mono HJ.out.size)) rfl (F10.mono hb6) _ (by rw [h1, h2]; rfl)
              · obtain rfl := Option.some.inj ho.symm
                clear hdep ho hJ
                simp only [fill, slotOf, List.size_toArray, List.length_cons, List.length_nil, Nat.reduceAdd, List.getElem?_toArray, List.getElem?_cons_zero, List.getElem?_cons_succ, Option.bind_some, Act.put, List.setIfInBounds_toArray, List.set_cons_zero, List.set_cons_succ] at hK ⊢
                go_simp
                exact hK _ _ HJ.out rfl (fun j y h => h) _ rfl
              · obtain rfl := Option.some.inj ho.symm
                have c0 := (G10.out.kept hJ).c0
                have c1 := (G10.out.kept hJ).c1
                have c2 := (G10.out.kept hJ).c2
                clear hdep ho hJ
                simp only [fill, slotOf, List.size_toArray, List.length_cons, List.length_nil, Nat.reduceAdd, List.getElem?_toArray, List.getElem?_cons_zero, List.getElem?_cons_succ, Option.bind_some, Act.put, List.setIfInBounds_toArray, List.set_cons_zero, List.set_cons_succ] at hK ⊢
                go_simp
                exact hK _ _ HJ.out rfl (fun j y h => h) _ rfl
              · obtain rfl := Option.some.inj ho.symm
                have h1 : V 17 = .agg (aggM (mq nm v u 4)) := hdep ⟨17, .data⟩ (by simp) rfl
                have HM := Lib.hid (mats_one w5 (mq nm v u 4) (HSZ.out _))
                have HBL := Lib.hid (show Below w5.heap.size w5 (w5.alloc (.cells (aggM (mq nm v u 4)) 47)) from (Below.refl _ _).alloc (Nat.le_refl _) _)
                have HJ2 := Lib.hid (HJ.out.alloc HJ.out.size (.cells (aggM (mq nm v u 4)) 47))
                clear hdep ho hJ
                simp only [fill, slotOf, List.size_toArray, List.length_cons, List.length_nil, Nat.reduceAdd, List.getElem?_toArray, List.getElem?_cons_zero, List.getElem?_cons_succ, Option.bind_some, Act.put, List.setIfInBounds_toArray, List.set_cons_zero, List.set_cons_succ] at hK ⊢
                rw [h1]
                go_simp
                exact hK _ _ HJ2.out ⟨_, rfl, HM.out⟩ (F10.mono HBL.out) _ (by rw [h1]; rfl)
              · obtain rfl := Option.some.inj ho.symm
                have h1 : V 16 = .slice a n c := hdep ⟨16, .data⟩ (by simp) rfl
                obtain ⟨p, h2, hm⟩ : ∃ p, V 18 = .slice (some ⟨p, 0, none⟩) 1 1 ∧ MatsAt w5 (some ⟨p, 0, none⟩) 1 1 [mq nm v u 4] := hdep ⟨18, .data⟩ (by simp) rfl
                have HME := Lib.hid (meets_any ((HHG.out.kept HJ.out)) hm)
                clear hdep ho hJ hm
                simp only [fill, slotOf, List.size_toArray, List.length_cons, List.length_nil, Nat.reduceAdd, List.getElem?_toArray, List.getElem?_cons_zero, List.getElem?_cons_succ, Option.bind_some, Act.put, List.setIfInBounds_toArray, List.set_cons_zero, List.set_cons_succ] at hK ⊢
                rw [h1, h2]
                go_simp
                refine HME.out.mono ?_
                rintro e w6 ⟨rfl, hb6⟩
                exact hK _ _ (HJ.out.trans (hb6.mono HJ.out.size)) rfl (F10.mono hb6) _ (by rw [h1, h2]; rfl)
              · obtain rfl := Option.some.inj ho.symm
                have h1 : V 3 = .bool (meetsB l [mq nm v u 0]) := hdep ⟨3, .data⟩ (by simp) rfl
                clear hdep ho hJ
                simp only [fill, slotOf, List.size_toArray, List.length_cons, List.length_nil, Nat.reduceAdd, List.getElem?_toArray, List.getElem?_cons_zero, List.getElem?_cons_succ, Option.bind_some, Act.put, List.setIfInBounds_toArray, List.set_cons_zero, List.set_cons_succ] at hK ⊢
                rw [h1]
                go_simp
                exact hK _ _ HJ.out rfl (fun j y h => h) _ (by rw [h1]; rfl)
              · obtain rfl := Option.some.inj ho.symm
                have h1 : V 7 = .bool (meetsB l [mq nm v u 1]) := hdep ⟨7, .data⟩ (by simp) rfl
                clear hdep ho hJ
                simp only [fill, slotOf, List.size_toArray, List.length_cons, List.length_nil, Nat.reduceAdd, List.getElem?_toArray, List.getElem?_cons_zero, List.getElem?_cons_succ, Option.bind_some, Act.put, List.setIfInBounds_toArray, List.set_cons_zero, List.set_cons_succ] at hK ⊢
                rw [h1]
                go_simp
                exact hK _ _ HJ.out rfl (fun j y h => h) _ (by rw [h1]; rfl)
              · obtain rfl := Option.some.inj ho.symm
                have h1 : V 11 = .bool (meetsB l [mq nm v u 2]) := hdep ⟨11, .data⟩ (by simp) rfl
                clear hdep ho hJ
                simp only [fill, slotOf, List.size_toArray, List.length_cons, List.length_nil, Nat.reduceAdd, List.getElem?_toArray, List.getElem?_cons_zero, List.getElem?_cons_succ, Option.bind_some, Act.put, List.setIfInBounds_toArray, List.set_cons_zero, List.set_cons_succ] at hK ⊢
                rw [h1]
                go_simp
                exact hK _ _ HJ.out rfl (fun j y h => h) _ (by rw [h1]; rfl)
              · obtain rfl := Option.some.inj ho.symm
                have h1 : V 15 = .bool (meetsB l [mq nm v u 3]) := hdep ⟨15, .data⟩ (by simp) rfl
                clear hdep ho hJ
                simp only [fill, slotOf, List.size_toArray, List.length_cons, List.length_nil, Nat.reduceAdd, List.getElem?_toArray, List.getElem?_cons_zero, List.getElem?_cons_succ, Option.bind_some, Act.put, List.setIfInBounds_toArray, List.set_cons_zero, List.set_cons_succ] at hK ⊢
                rw [h1]
                go_simp
                exact hK _ _ HJ.out rfl (fun j y h => h) _ (by rw [h1]; rfl)
              · obtain rfl := Option.some.inj ho.symm
                have h1 : V 19 = .bool (meetsB l [mq nm v u 4]) := hdep ⟨19, .data⟩ (by simp) rfl
                clear hdep ho hJ
                simp only [fill, slotOf, List.size_toArray, List.length_cons, List.length_nil, Nat.reduceAdd, List.getElem?_toArray, List.getElem?_cons_zero, List.getElem?_cons_succ, Option.bind_some, Act.put, List.setIfInBounds_toArray, List.set_cons_zero, List.set_cons_succ] at hK ⊢
                rw [h1]
                go_simp
                exact hK _ _ HJ.out rfl (fun j y h => h) _ (by rw [h1]; rfl)
            · intro V w5 hJ hall
              have r0 : V 20 = .bool (meetsB l [mq nm v u 0]) := hall 20 (by decide)
              have r1 : V 21 = .bool (meetsB l [mq nm v u 1]) := hall 21 (by decide)
              have r2 : V 22 = .bool (meetsB l [mq nm v u 2]) := hall 22 (by decide)
              have r3 : V 23 = .bool (meetsB l [mq nm v u 3]) := hall 23 (by decide)
              have r4 : V 24 = .bool (meetsB l [mq nm v u 4]) := hall 24 (by decide)
              have HJ := Lib.hid hJ
              simp only [fill, slotOf, List.size_toArray, List.length_cons, List.length_nil, Nat.reduceAdd, List.getElem?_toArray, List.getElem?_cons_zero, List.getElem?_cons_succ, Option.bind_some, Act.put, List.setIfInBounds_toArray, List.set_cons_zero, List.set_cons_succ]
              rw [r0, r1, r2, r3, r4]
              clear r0 r1 r2 r3 r4 hall hJ
              obtain ⟨b0, b1, b2, b3, b4, hb0, hb1, hb2, hb3, hb4, t1, t2, t3, t4, hb5, hb6⟩ := turns_facts l nm v u way k HS.out HAS.out HU.out
              rw [hb0, hb1, hb2, hb3, hb4]
              have HQ5 := Lib.hid hb5
              have HQ6 := Lib.hid hb6
              have e70 := (G7.out.kept HJ.out).c0
              have e71 := (G7.out.kept HJ.out).c1
              have e72 := (G7.out.kept HJ.out).c2
              have e100 := (G10.out.kept HJ.out).c0
              have e101 := (G10.out.kept HJ.out).c1
              have e102 := (G10.out.kept HJ.out).c2
              have HLW := Lib.hid (HHG.out.kept HJ.out)
              have HBW := Lib.hid (HBG.out.trans (HJ.out.mono HBG.out.size))
              have hba : Below w5.heap.size w5 (w5.alloc (.cells #[.string nm, .int .i64 1, .string v, .string nm, .int .i64 4, .string { data := #[] }] 47)) := (Below.refl _ _).alloc (Nat.le_refl _) _
              have HME := Lib.hid (meets_any (HLW.out.kept hba) (mats_two w5 (mq nm v u 0) (mq nm v u 4) (HSZ.out 0) (HSZ.out 4)))
              have HBA := Lib.hid (HBW.out.trans (hba.mono HBW.out.size))
              have HLA := Lib.hid (HLW.out.kept hba)
              have hcs := bool_cases t1 t2 t3 t4
              clear hb0 hb1 hb2 hb3 hb4 hb5 hb6 t1 t2 t3 t4 hba n78 n79 n710 n89 n810 n910
              rcases hcs with ⟨rfl, rfl, rfl, rfl, rfl⟩ | ⟨rfl, rfl, rfl, rfl, rfl⟩ | ⟨rfl, rfl, rfl, rfl, rfl⟩ | ⟨rfl, rfl, rfl, rfl, rfl⟩ | ⟨rfl, rfl, rfl, rfl, rfl⟩
              all_goals
                go_wp2_with fail
                refine HME.out.mono ?_
                rw [HQ5.out]
                rintro e w6 ⟨rfl, hb6⟩
                have HB6 := Lib.hid (HBA.out.trans (hb6.mono HBA.out.size))
                have HL6 := Lib.hid (HLA.out.kept hb6)
                clear hb6
                go_wp2_with fail
                refine (meets_any HL6.out (MatsAt.empty w6 none 0 (by omega) (fun _ => rfl))).mono ?_
                rw [HQ6.out]
                rintro e w7 ⟨rfl, hb7⟩
                have HB7 := Lib.hid (HB6.out.trans (hb7.mono HB6.out.size))
                clear hb7
                go_wp2_with fail
                go_ret
                exact ⟨rfl, HB7.out⟩
        · have hq4 : (way == 4) = false := by rw [beq_eq_false_iff_ne]; exact h4
          clear ha h4
          go_enter Try.func8, Try.ntmps8
          go_wp2_with fail
          rw [← HW0.out, ← HBE.out]
          refine (HLV.out w0).mono ?_
          rintro e w1 ⟨rfl, hb1⟩
          have HB1 := Lib.hid (HB0.out.trans (hb1.mono HB0.out.size))
          have HK1 := Lib.hid (HK0.out.kept hb1)
          clear hb1
          go_wp2_with fail
          refine (few_any (HH.out.kept HB1.out)).mono ?_
          rw [HF.out]
          rintro e w2 ⟨rfl, hb2⟩
          have HB2 := Lib.hid (HB1.out.trans (hb2.mono HB1.out.size))
          have HK2 := Lib.hid (HK1.out.kept hb2)
          clear hb2
          go_wp2_with fail
          refine (right_any (HH.out.kept HB2.out)).mono ?_
          rw [HS.out]
          rintro e w3 ⟨rfl, hb3⟩
          have HB3 := Lib.hid (HB2.out.trans (hb3.mono HB2.out.size))
          have HK3 := Lib.hid (HK2.out.kept hb3)
          clear hb3
          have e0 := HK3.out.c0
          have e1 := HK3.out.c1
          have e2 := HK3.out.c2
          go_wp2_with fail
          refine (asks_any nm v way hn hv _).mono ?_
          rw [HAS.out]
          rintro e w4 ⟨rfl, hb4⟩
          have HB4 := Lib.hid (HB3.out.trans (hb4.mono HB3.out.size))
          have HK4 := Lib.hid (HK3.out.kept hb4)
          clear hb4 e0 e1 e2
          have e0 := HK4.out.c0
          have e1 := HK4.out.c1
          have e2 := HK4.out.c2
          have ef2 := HK4.out.f 2
          go_upto_region 5 with fail
          refine wp_region_inv (by kernel_rfl) (by kernel_rfl) (by kernel_rfl) (I5 w4 nm way v) (fun V => I5.start w4 nm way v V) ?_ ?_
          · intro i o ho L V w5 K hI hL hdep hK
            have hbe := hI.below
            have c0 := (HK4.out.kept hbe).c0
            have c1 := (HK4.out.kept hbe).c1
            have c2 := (HK4.out.kept hbe).c2
            have hi12 : i < 12 := (Array.getElem?_eq_some_iff.1 ho).1
            have hcs : i = 0 ∨ i = 1 ∨ i = 2 ∨ i = 3 ∨ i = 4 ∨ i = 5 ∨ i = 6 ∨ i = 7 ∨ i = 8 ∨ i = 9 ∨ i = 10 ∨ i = 11 := by omega
            rcases hcs with rfl | rfl | rfl | rfl | rfl | rfl | rfl | rfl | rfl | rfl | rfl | rfl
            · obtain rfl := Option.some.inj ho.symm
              have HI := Lib.hid (hI.ld (i := 0) (by omega))
              clear hI hL hdep ho hbe
              simp only [fill, slotOf, List.size_toArray, List.length_cons, List.length_nil, Nat.reduceAdd, List.getElem?_toArray, List.getElem?_cons_zero, List.getElem?_cons_succ, Option.bind_some, Act.put, List.setIfInBounds_toArray, List.set_cons_zero, List.set_cons_succ] at hK ⊢
              go_simp
              exact hK _ _ HI.out _ rfl
            · obtain rfl := Option.some.inj ho.symm
              have HI := Lib.hid (hI.ld (i := 1) (by omega))
              clear hI hL hdep ho hbe
              simp only [fill, slotOf, List.size_toArray, List.length_cons, List.length_nil, Nat.reduceAdd, List.getElem?_toArray, List.getElem?_cons_zero, List.getElem?_cons_succ, Option.bind_some, Act.put, List.setIfInBounds_toArray, List.set_cons_zero, List.set_cons_succ] at hK ⊢
              go_simp
              exact hK _ _ HI.out _ rfl
            · obtain rfl := Option.some.inj ho.symm
              have HI := Lib.hid (hI.ld (i := 2) (by omega))
              clear hI hL hdep ho hbe
              simp only [fill, slotOf, List.size_toArray, List.length_cons, List.length_nil, Nat.reduceAdd, List.getElem?_toArray, List.getElem?_cons_zero, List.getElem?_cons_succ, Option.bind_some, Act.put, List.setIfInBounds_toArray, List.set_cons_zero, List.set_cons_succ] at hK ⊢
              go_simp
              exact hK _ _ HI.out _ rfl
            · obtain rfl := Option.some.inj ho.symm
              have HI := Lib.hid (hI.ld (i := 3) (by omega))
              clear hI hL hdep ho hbe
              simp only [fill, slotOf, List.size_toArray, List.length_cons, List.length_nil, Nat.reduceAdd, List.getElem?_toArray, List.getElem?_cons_zero, List.getElem?_cons_succ, Option.bind_some, Act.put, List.setIfInBounds_toArray, List.set_cons_zero, List.set_cons_succ] at hK ⊢
              go_simp
              exact hK _ _ HI.out _ rfl
            · obtain rfl := Option.some.inj ho.symm
              have HI := Lib.hid (hI.al (i := 4) (by omega) (by omega) hL (bt0) 0 (bt0))
              clear hI hL hdep ho hbe c0 c1 c2
              simp only [fill, slotOf, List.size_toArray, List.length_cons, List.length_nil, Nat.reduceAdd, List.getElem?_toArray, List.getElem?_cons_zero, List.getElem?_cons_succ, Option.bind_some, Act.put, List.setIfInBounds_toArray, List.set_cons_zero, List.set_cons_succ] at hK ⊢
              go_simp
              exact hK _ _ HI.out _ rfl
            · obtain rfl := Option.some.inj ho.symm
              have HI := Lib.hid (hI.al (i := 5) (by omega) (by omega) hL (bt0) 0 (bt0))
              clear hI hL hdep ho hbe c0 c1 c2
              simp only [fill, slotOf, List.size_toArray, List.length_cons, List.length_nil, Nat.reduceAdd, List.getElem?_toArray, List.getElem?_cons_zero, List.getElem?_cons_succ, Option.bind_some, Act.put, List.setIfInBounds_toArray, List.set_cons_zero, List.set_cons_succ] at hK ⊢
              go_simp
              exact hK _ _ HI.out _ rfl
            · obtain rfl := Option.some.inj ho.symm
              have HI := Lib.hid (hI.al (i := 6) (by omega) (by omega) hL (bt0) 0 (bt0))
              clear hI hL hdep ho hbe c0 c1 c2
              simp only [fill, slotOf, List.size_toArray, List.length_cons, List.length_nil, Nat.reduceAdd, List.getElem?_toArray, List.getElem?_cons_zero, List.getElem?_cons_succ, Option.bind_some, Act.put, List.setIfInBounds_toArray, List.set_cons_zero, List.set_cons_succ] at hK ⊢
              go_simp
              exact hK _ _ HI.out _ rfl
            · obtain rfl := Option.some.inj ho.symm
              have HI := Lib.hid (hI.al (i := 7) (by omega) (by omega) hL (bt0) 0 (bt0))
              clear hI hL hdep ho hbe c0 c1 c2
              simp only [fill, slotOf, List.size_toArray, List.length_cons, List.length_nil, Nat.reduceAdd, List.getElem?_toArray, List.getElem?_cons_zero, List.getElem?_cons_succ, Option.bind_some, Act.put, List.setIfInBounds_toArray, List.set_cons_zero, List.set_cons_succ] at hK ⊢
              go_simp
              exact hK _ _ HI.out _ rfl
            · obtain rfl := Option.some.inj ho.symm
              have hlj : L 4 = true := hdep ⟨4, .data⟩ (by simp) rfl
              have hl0 : L 0 = true := hdep ⟨0, .data⟩ (by simp) rfl
              simp only [fill, slotOf, List.size_toArray, List.length_cons, List.length_nil, Nat.reduceAdd, List.getElem?_toArray, List.getElem?_cons_zero, List.getElem?_cons_succ, Option.bind_some, Act.put, List.setIfInBounds_toArray, List.set_cons_zero, List.set_cons_succ] at hK ⊢
              simp only [Region.wanted]
              refine I5.store (i := 4) hI (by decide) (by decide) hlj hl0 (.tmp 7) (.tmp 39) rfl rfl rfl (fun w2 h2 => hK undef w2 h2 _ rfl)
            · obtain rfl := Option.some.inj ho.symm
              have hlj : L 5 = true := hdep ⟨5, .data⟩ (by simp) rfl
              have hl0 : L 1 = true := hdep ⟨1, .data⟩ (by simp) rfl
              simp only [fill, slotOf, List.size_toArray, List.length_cons, List.length_nil, Nat.reduceAdd, List.getElem?_toArray, List.getElem?_cons_zero, List.getElem?_cons_succ, Option.bind_some, Act.put, List.setIfInBounds_toArray, List.set_cons_zero, List.set_cons_succ] at hK ⊢
              simp only [Region.wanted]
              refine I5.store (i := 5) hI (by decide) (by decide) hlj hl0 (.tmp 8) (.tmp 40) rfl rfl rfl (fun w2 h2 => hK undef w2 h2 _ rfl)
            · obtain rfl := Option.some.inj ho.symm
              have hlj : L 6 = true := hdep ⟨6, .data⟩ (by simp) rfl
              have hl0 : L 2 = true := hdep ⟨2, .data⟩ (by simp) rfl
              simp only [fill, slotOf, List.size_toArray, List.length_cons, List.length_nil, Nat.reduceAdd, List.getElem?_toArray, List.getElem?_cons_zero, List.getElem?_cons_succ, Option.bind_some, Act.put, List.setIfInBounds_toArray, List.set_cons_zero, List.set_cons_succ] at hK ⊢
              simp only [Region.wanted]
              refine I5.store (i := 6) hI (by decide) (by decide) hlj hl0 (.tmp 9) (.tmp 41) rfl rfl rfl (fun w2 h2 => hK undef w2 h2 _ rfl)
            · obtain rfl := Option.some.inj ho.symm
              have hlj : L 7 = true := hdep ⟨7, .data⟩ (by simp) rfl
              have hl0 : L 3 = true := hdep ⟨3, .data⟩ (by simp) rfl
              simp only [fill, slotOf, List.size_toArray, List.length_cons, List.length_nil, Nat.reduceAdd, List.getElem?_toArray, List.getElem?_cons_zero, List.getElem?_cons_succ, Option.bind_some, Act.put, List.setIfInBounds_toArray, List.set_cons_zero, List.set_cons_succ] at hK ⊢
              simp only [Region.wanted]
              refine I5.store (i := 7) hI (by decide) (by decide) hlj hl0 (.tmp 10) (.tmp 42) rfl rfl rfl (fun w2 h2 => hK undef w2 h2 _ rfl)
          · intro L V w5 hI hall
            obtain ⟨p7, hp7, hg7, k7⟩ := I5.done hI hall 4 (by decide) (by decide)
            obtain ⟨p8, hp8, hg8, k8⟩ := I5.done hI hall 5 (by decide) (by decide)
            obtain ⟨p9, hp9, hg9, k9⟩ := I5.done hI hall 6 (by decide) (by decide)
            obtain ⟨p10, hp10, hg10, k10⟩ := I5.done hI hall 7 (by decide) (by decide)
            have n78 : p7 ≠ p8 := I5.two hI hall 4 5 (by decide) (by decide) (by decide) hp7 hp8
            have n79 : p7 ≠ p9 := I5.two hI hall 4 6 (by decide) (by decide) (by decide) hp7 hp9
            have n710 : p7 ≠ p10 := I5.two hI hall 4 7 (by decide) (by decide) (by decide) hp7 hp10
            have n89 : p8 ≠ p9 := I5.two hI hall 5 6 (by decide) (by decide) (by decide) hp8 hp9
            have n810 : p8 ≠ p10 := I5.two hI hall 5 7 (by decide) (by decide) (by decide) hp8 hp10
            have n910 : p9 ≠ p10 := I5.two hI hall 6 7 (by decide) (by decide) (by decide) hp9 hp10
            have HB5 := Lib.hid (HB4.out.trans (hI.below.mono HB4.out.size))
            simp only [fill, slotOf, List.size_toArray, List.length_cons, List.length_nil, Nat.reduceAdd, List.getElem?_toArray, List.getElem?_cons_zero, List.getElem?_cons_succ, Option.bind_some, Act.put, List.setIfInBounds_toArray, List.set_cons_zero, List.set_cons_succ]
            rw [hp7, hp8, hp9, hp10]
            have HG := Lib.hid (And.intro hg7 (And.intro hg8 (And.intro hg9 hg10)))
            have HN := Lib.hid (And.intro n78 (And.intro n79 (And.intro n710 (And.intro n89 (And.intro n810 n910)))))
            have K7 := Lib.hid k7
            have K8 := Lib.hid k8
            have K9 := Lib.hid k9
            have K10 := Lib.hid k10
            clear hI hall hp7 hp8 hp9 hp10 hg7 hg8 hg9 hg10 k7 k8 k9 k10 n78 n79 n710 n89 n810 n910 e0 e1 e2 ef2
            have hv16 : v.size ≤ 16 := by have := HAS.out; unfold asksB at this; simp only [Bool.and_eq_true, decide_eq_true_eq] at this; exact this.1.2
            have n78 := HN.out.1
            have n79 := HN.out.2.1
            have n710 := HN.out.2.2.1
            have n89 := HN.out.2.2.2.1
            have n810 := HN.out.2.2.2.2.1
            have n910 := HN.out.2.2.2.2.2
            have a7 := K7.out.c1
            have b7 := K7.out.f 1
            have HA := Lib.hid (K7.out.set1 1)
            have A8 := Lib.hid (K8.out.other (j := 1) (Ne.symm n78) (.int .i64 1))
            have A9 := Lib.hid (K9.out.other (j := 1) (Ne.symm n79) (.int .i64 1))
            have A10 := Lib.hid (K10.out.other (j := 1) (Ne.symm n710) (.int .i64 1))
            have a8 := A8.out.c1
            have b8 := A8.out.f 1
            have B7 := Lib.hid (HA.out.other (j := 1) n78 (.int .i64 2))
            have B8 := Lib.hid (A8.out.set1 2)
            have B9 := Lib.hid (A9.out.other (j := 1) (Ne.symm n89) (.int .i64 2))
            have B10 := Lib.hid (A10.out.other (j := 1) (Ne.symm n810) (.int .i64 2))
            have a9 := B9.out.c1
            have b9 := B9.out.f 1
            have C7 := Lib.hid (B7.out.other (j := 1) n79 (.int .i64 3))
            have C8 := Lib.hid (B8.out.other (j := 1) n89 (.int .i64 3))
            have C9 := Lib.hid (B9.out.set1 3)
            have C10 := Lib.hid (B10.out.other (j := 1) (Ne.symm n910) (.int .i64 3))
            have a10 := C10.out.c1
            have b10 := C10.out.f 1
            have D7 := Lib.hid (C7.out.other (j := 1) n710 (.int .i64 4))
            have D8 := Lib.hid (C8.out.other (j := 1) n810 (.int .i64 4))
            have D9 := Lib.hid (C9.out.other (j := 1) n910 (.int .i64 4))
            have D10 := Lib.hid (C10.out.set1 4)
            have a11 := D10.out.c2
            have b11 := D10.out.f 2
            have E7 := Lib.hid (D7.out.other (j := 2) n710 (.string { data := #[] }))
            have E8 := Lib.hid (D8.out.other (j := 2) n810 (.string { data := #[] }))
            have E9 := Lib.hid (D9.out.other (j := 2) n910 (.string { data := #[] }))
            have E10 := Lib.hid (D10.out.set2 { data := #[] })
            obtain ⟨wE, hwE⟩ : ∃ wE, wE = ((((w5.setCell ⟨p7, 1, none⟩ (.int .i64 1)).setCell ⟨p8, 1, none⟩ (.int .i64 2)).setCell ⟨p9, 1, none⟩ (.int .i64 3)).setCell ⟨p10, 1, none⟩ (.int .i64 4)).setCell ⟨p10, 2, none⟩ (.string { data := #[] }) := ⟨_, rfl⟩
            rw [← hwE] at E7 E8 E9 E10
            have hsw : w.heap.size ≤ w4.heap.size := HB4.out.size
            have HBE2 := Lib.hid (show Below w.heap.size w wE by
              rw [hwE]
              have g := HG.out
              exact ((((HB5.out.setCell (p := ⟨p7, 1, none⟩) (Nat.le_trans hsw g.1) _).setCell (p := ⟨p8, 1, none⟩) (Nat.le_trans hsw g.2.1) _).setCell (p := ⟨p9, 1, none⟩) (Nat.le_trans hsw g.2.2.1) _).setCell (p := ⟨p10, 1, none⟩) (Nat.le_trans hsw g.2.2.2) _).setCell (p := ⟨p10, 2, none⟩) (Nat.le_trans hsw g.2.2.2) _)
            have HWE := Lib.hid hwE
            clear hwE HA A8 A9 A10 B7 B8 B9 B10 C7 C8 C9 C10 D7 D8 D9 D10
            go_upto_region 8 with fail
            rw [← HWE.out]
            clear a7 b7 a8 b8 a9 b9 a10 b10 a11 b11
            have m0 := E9.out.c0
            have m1 := E9.out.c1
            have m2 := E9.out.c2
            go_upto_region 9 with fail
            have q2 := alloc1 m2 (.cells #[.string nm, .int .i64 3, .string v] 47)
            have hvs : (v.size : Int) ≤ 16 := by omega
            have hvw : IntKind.i64.wrap ((v.size : Int) + 1) = (v.size : Int) + 1 := IntWalk.i64_in _ (by omega)
            obtain ⟨k, hkv, hkw⟩ := cut_at z v.size hv16
            have hk1 : (k : Int) ≤ (v.size : Int) := by omega
            have hk0 : (0 : Int) ≤ (k : Int) := by omega
            have hu0 : ¬ IntKind.u64.wrap ((v.size : Int) + 1) = 0 := by rw [u64_small _ (by omega) (by omega)]; omega
            have hu1 : IntKind.u64.wrap ((v.size : Int) + 1) = (v.size : Int) + 1 := u64_small _ (by omega) (by omega)
            go_region
            obtain ⟨u, hu⟩ : ∃ u, u = v.extract 0 k := ⟨_, rfl⟩
            rw [← hu]
            have hus : u.size ≤ 16 := by rw [hu]; simp; omega
            have HU := Lib.hid hu
            clear hu hkw hu0 hu1 hk1 hk0 hvw q2 m0 m1 m2 hvs
            obtain ⟨p11, hp11⟩ : ∃ p11, p11 = wE.heap.size := ⟨_, rfl⟩
            obtain ⟨wG, hwG⟩ : ∃ wG, wG = (wE.alloc (.cells #[.string nm, .int .i64 3, .string u] 47)).drew := ⟨_, rfl⟩
            have hbG : Below wE.heap.size wE wG := by rw [hwG]; exact ((Below.refl _ _).alloc (Nat.le_refl _) _).drew
            have G7 := Lib.hid (E7.out.kept hbG)
            have G8 := Lib.hid (E8.out.kept hbG)
            have G9 := Lib.hid (E9.out.kept hbG)
            have G10 := Lib.hid (E10.out.kept hbG)
            have G11 := Lib.hid (show MatBlk wG p11 nm 3 u by rw [hwG, hp11]; exact heap_alloc_new wE _)
            have HBG := Lib.hid (HBE2.out.trans (hbG.mono HBE2.out.size))
            have HHG := Lib.hid (HH.out.kept HBG.out)
            have HSZ := Lib.hid (show ∀ q, (mq nm v u q).1.size ≤ 140737488355328 ∧ (mq nm v u q).2.2.size ≤ 140737488355328 from fun q => by
              rcases q with _ | _ | _ | _ | q <;> exact ⟨hn, by first | (show v.size ≤ _; omega) | (show u.size ≤ _; omega) | (show (0 : Nat) ≤ _; omega)⟩)
            rw [← hwG, ← hp11]
            have HWG := Lib.hid hwG
            have HP11 := Lib.hid hp11
            clear hwG hp11 hbG
            go_upto_region 10 with fail
            refine wp_region_fill (by kernel_rfl) (by kernel_rfl) (by kernel_rfl) (fun w' => Below wG.heap.size wG w') (F10 a n c l nm v u) ((Below.refl _ _).drew) ?_ ?_
            · intro i o ho V w5 K hJ hdep hK
              have HJ := Lib.hid hJ
              have hi25 : i < 25 := (Array.getElem?_eq_some_iff.1 ho).1
              have hcs : i = 0 ∨ i = 1 ∨ i = 2 ∨ i = 3 ∨ i = 4 ∨ i = 5 ∨ i = 6 ∨ i = 7 ∨ i = 8 ∨ i = 9 ∨ i = 10 ∨ i = 11 ∨ i = 12 ∨ i = 13 ∨ i = 14 ∨ i = 15 ∨ i = 16 ∨ i = 17 ∨ i = 18 ∨ i = 19 ∨ i = 20 ∨ i = 21 ∨ i = 22 ∨ i = 23 ∨ i = 24 := by omega
              rcases hcs with rfl | rfl | rfl | rfl | rfl | rfl | rfl | rfl | rfl | rfl | rfl | rfl | rfl | rfl | rfl | rfl | rfl | rfl | rfl | rfl | rfl | rfl | rfl | rfl | rfl
              · obtain rfl := Option.some.inj ho.symm
                clear hdep ho hJ
                simp only [fill, slotOf, List.size_toArray, List.length_cons, List.length_nil, Nat.reduceAdd, List.getElem?_toArray, List.getElem?_cons_zero, List.getElem?_cons_succ, Option.bind_some, Act.put, List.setIfInBounds_toArray, List.set_cons_zero, List.set_cons_succ] at hK ⊢
                go_simp
                exact hK _ _ HJ.out rfl (fun j y h => h) _ rfl
              · obtain rfl := Option.some.inj ho.symm
                have c0 := (G7.out.kept hJ).c0
                have c1 := (G7.out.kept hJ).c1
                have c2 := (G7.out.kept hJ).c2
                clear hdep ho hJ
                simp only [fill, slotOf, List.size_toArray, List.length_cons, List.length_nil, Nat.reduceAdd, List.getElem?_toArray, List.getElem?_cons_zero, List.getElem?_cons_succ, Option.bind_some, Act.put, List.setIfInBounds_toArray, List.set_cons_zero, List.set_cons_succ] at hK ⊢
                go_simp
                exact hK _ _ HJ.out rfl (fun j y h => h) _ rfl
              · obtain rfl := Option.some.inj ho.symm
                have h1 : V 1 = .agg (aggM (mq nm v u 0)) := hdep ⟨1, .data⟩ (by simp) rfl
                have HM := Lib.hid (mats_one w5 (mq nm v u 0) (HSZ.out _))
                have HBL := Lib.hid (show Below w5.heap.size w5 (w5.alloc (.cells (aggM (mq nm v u 0)) 47)) from (Below.refl _ _).alloc (Nat.le_refl _) _)
                have HJ2 := Lib.hid (HJ.out.alloc HJ.out.size (.cells (aggM (mq nm v u 0)) 47))
                clear hdep ho hJ
                simp only [fill, slotOf, List.size_toArray, List.length_cons, List.length_nil, Nat.reduceAdd, List.getElem?_toArray, List.getElem?_cons_zero, List.getElem?_cons_succ, Option.bind_some, Act.put, List.setIfInBounds_toArray, List.set_cons_zero, List.set_cons_succ] at hK ⊢
                rw [h1]
                go_simp
                exact hK _ _ HJ2.out ⟨_, rfl, HM.out⟩ (F10.mono HBL.out) _ (by rw [h1]; rfl)
              · obtain rfl := Option.some.inj ho.symm
                have h1 : V 0 = .slice a n c := hdep ⟨0, .data⟩ (by simp) rfl
                obtain ⟨p, h2, hm⟩ : ∃ p, V 2 = .slice (some ⟨p, 0, none⟩) 1 1 ∧ MatsAt w5 (some ⟨p, 0, none⟩) 1 1 [mq nm v u 0] := hdep ⟨2, .data⟩ (by simp) rfl
                have HME := Lib.hid (meets_any ((HHG.out.kept HJ.out)) hm)
                clear hdep ho hJ hm
                simp only [fill, slotOf, List.size_toArray, List.length_cons, List.length_nil, Nat.reduceAdd, List.getElem?_toArray, List.getElem?_cons_zero, List.getElem?_cons_succ, Option.bind_some, Act.put, List.setIfInBounds_toArray, List.set_cons_zero, List.set_cons_succ] at hK ⊢
                rw [h1, h2]
                go_simp
                refine HME.out.mono ?_
                rintro e w6 ⟨rfl, hb6⟩
                exact hK _ _ (HJ.out.trans (hb6.mono HJ.out.size)) rfl (F10.mono hb6) _ (by rw [h1, h2]; rfl)
              · obtain rfl := Option.some.inj ho.symm
                clear hdep ho hJ
                simp only [fill, slotOf, List.size_toArray, List.length_cons, List.length_nil, Nat.reduceAdd, List.getElem?_toArray, List.getElem?_cons_zero, List.getElem?_cons_succ, Option.bind_some, Act.put, List.setIfInBounds_toArray, List.set_cons_zero, List.set_cons_succ] at hK ⊢
                go_simp
                exact hK _ _ HJ.out rfl (fun j y h => h) _ rfl
              · obtain rfl := Option.some.inj ho.symm
                have c0 := (G8.out.kept hJ).c0
                have c1 := (G8.out.kept hJ).c1
                have c2 := (G8.out.kept hJ).c2
                clear hdep ho hJ
                simp only [fill, slotOf, List.size_toArray, List.length_cons, List.length_nil, Nat.reduceAdd, List.getElem?_toArray, List.getElem?_cons_zero, List.getElem?_cons_succ, Option.bind_some, Act.put, List.setIfInBounds_toArray, List.set_cons_zero, List.set_cons_succ] at hK ⊢
                go_simp
                exact hK _ _ HJ.out rfl (fun j y h => h) _ rfl
              · obtain rfl := Option.some.inj ho.symm
                have h1 : V 5 = .agg (aggM (mq nm v u 1)) := hdep ⟨5, .data⟩ (by simp) rfl
                have HM := Lib.hid (mats_one w5 (mq nm v u 1) (HSZ.out _))
                have HBL := Lib.hid (show Below w5.heap.size w5 (w5.alloc (.cells (aggM (mq nm v u 1)) 47)) from (Below.refl _ _).alloc (Nat.le_refl _) _)
                have HJ2 := Lib.hid (HJ.out.alloc HJ.out.size (.cells (aggM (mq nm v u 1)) 47))
                clear hdep ho hJ
                simp only [fill, slotOf, List.size_toArray, List.length_cons, List.length_nil, Nat.reduceAdd, List.getElem?_toArray, List.getElem?_cons_zero, List.getElem?_cons_succ, Option.bind_some, Act.put, List.setIfInBounds_toArray, List.set_cons_zero, List.set_cons_succ] at hK ⊢
                rw [h1]
                go_simp
                exact hK _ _ HJ2.out ⟨_, rfl, HM.out⟩ (F10.mono HBL.out) _ (by rw [h1]; rfl)
              · obtain rfl := Option.some.inj ho.symm
                have h1 : V 4 = .slice a n c := hdep ⟨4, .data⟩ (by simp) rfl
                obtain ⟨p, h2, hm⟩ : ∃ p, V 6 = .slice (some ⟨p, 0, none⟩) 1 1 ∧ MatsAt w5 (some ⟨p, 0, none⟩) 1 1 [mq nm v u 1] := hdep ⟨6, .data⟩ (by simp) rfl
                have HME := Lib.hid (meets_any ((HHG.out.kept HJ.out)) hm)
                clear hdep ho hJ hm
                simp only [fill, slotOf, List.size_toArray, List.length_cons, List.length_nil, Nat.reduceAdd, List.getElem?_toArray, List.getElem?_cons_zero, List.getElem?_cons_succ, Option.bind_some, Act.put, List.setIfInBounds_toArray, List.set_cons_zero, List.set_cons_succ] at hK ⊢
                rw [h1, h2]
                go_simp
                refine HME.out.mono ?_
                rintro e w6 ⟨rfl, hb6⟩
                exact hK _ _ (HJ.out.trans (hb6.mono HJ.out.size)) rfl (F10.mono hb6) _ (by rw [h1, h2]; rfl)
              · obtain rfl := Option.some.inj ho.symm
                clear hdep ho hJ
                simp only [fill, slotOf, List.size_toArray, List.length_cons, List.length_nil, Nat.reduceAdd, List.getElem?_toArray, List.getElem?_cons_zero, List.getElem?_cons_succ, Option.bind_some, Act.put, List.setIfInBounds_toArray, List.set_cons_zero, List.set_cons_succ] at hK ⊢
                go_simp
                exact hK _ _ HJ.out rfl (fun j y h => h) _ rfl
              · obtain rfl := Option.some.inj ho.symm
                have c0 := (G9.out.kept hJ).c0
                have c1 := (G9.out.kept hJ).c1
                have c2 := (G9.out.kept hJ).c2
                clear hdep ho hJ
                simp only [fill, slotOf, List.size_toArray, List.length_cons, List.length_nil, Nat.reduceAdd, List.getElem?_toArray, List.getElem?_cons_zero, List.getElem?_cons_succ, Option.bind_some, Act.put, List.setIfInBounds_toArray, List.set_cons_zero, List.set_cons_succ] at hK ⊢
                go_simp
                exact hK _ _ HJ.out rfl (fun j y h => h) _ rfl
              · obtain rfl := Option.some.inj ho.symm
                have h1 : V 9 = .agg (aggM (mq nm v u 2)) := hdep ⟨9, .data⟩ (by simp) rfl
                have HM := Lib.hid (mats_one w5 (mq nm v u 2) (HSZ.out _))
                have HBL := Lib.hid (show Below w5.heap.size w5 (w5.alloc (.cells (aggM (mq nm v u 2)) 47)) from (Below.refl _ _).alloc (Nat.le_refl _) _)
                have HJ2 := Lib.hid (HJ.out.alloc HJ.out.size (.cells (aggM (mq nm v u 2)) 47))
                clear hdep ho hJ
                simp only [fill, slotOf, List.size_toArray, List.length_cons, List.length_nil, Nat.reduceAdd, List.getElem?_toArray, List.getElem?_cons_zero, List.getElem?_cons_succ, Option.bind_some, Act.put, List.setIfInBounds_toArray, List.set_cons_zero, List.set_cons_succ] at hK ⊢
                rw [h1]
                go_simp
                exact hK _ _ HJ2.out ⟨_, rfl, HM.out⟩ (F10.mono HBL.out) _ (by rw [h1]; rfl)
              · obtain rfl := Option.some.inj ho.symm
                have h1 : V 8 = .slice a n c := hdep ⟨8, .data⟩ (by simp) rfl
                obtain ⟨p, h2, hm⟩ : ∃ p, V 10 = .slice (some ⟨p, 0, none⟩) 1 1 ∧ MatsAt w5 (some ⟨p, 0, none⟩) 1 1 [mq nm v u 2] := hdep ⟨10, .data⟩ (by simp) rfl
                have HME := Lib.hid (meets_any ((HHG.out.kept HJ.out)) hm)
                clear hdep ho hJ hm
                simp only [fill, slotOf, List.size_toArray, List.length_cons, List.length_nil, Nat.reduceAdd, List.getElem?_toArray, List.getElem?_cons_zero, List.getElem?_cons_succ, Option.bind_some, Act.put, List.setIfInBounds_toArray, List.set_cons_zero, List.set_cons_succ] at hK ⊢
                rw [h1, h2]
                go_simp
                refine HME.out.mono ?_
                rintro e w6 ⟨rfl, hb6⟩
                exact hK _ _ (HJ.out.trans (hb6.mono HJ.out.size)) rfl (F10.mono hb6) _ (by rw [h1, h2]; rfl)
              · obtain rfl := Option.some.inj ho.symm
                clear hdep ho hJ
                simp only [fill, slotOf, List.size_toArray, List.length_cons, List.length_nil, Nat.reduceAdd, List.getElem?_toArray, List.getElem?_cons_zero, List.getElem?_cons_succ, Option.bind_some, Act.put, List.setIfInBounds_toArray, List.set_cons_zero, List.set_cons_succ] at hK ⊢
                go_simp
                exact hK _ _ HJ.out rfl (fun j y h => h) _ rfl
              · obtain rfl := Option.some.inj ho.symm
                have c0 := (G11.out.kept hJ).c0
                have c1 := (G11.out.kept hJ).c1
                have c2 := (G11.out.kept hJ).c2
                clear hdep ho hJ
                simp only [fill, slotOf, List.size_toArray, List.length_cons, List.length_nil, Nat.reduceAdd, List.getElem?_toArray, List.getElem?_cons_zero, List.getElem?_cons_succ, Option.bind_some, Act.put, List.setIfInBounds_toArray, List.set_cons_zero, List.set_cons_succ] at hK ⊢
                go_simp
                exact hK _ _ HJ.out rfl (fun j y h => h) _ rfl
              · obtain rfl := Option.some.inj ho.symm
                have h1 : V 13 = .agg (aggM (mq nm v u 3)) := hdep ⟨13, .data⟩ (by simp) rfl
                have HM := Lib.hid (mats_one w5 (mq nm v u 3) (HSZ.out _))
                have HBL := Lib.hid (show Below w5.heap.size w5 (w5.alloc (.cells (aggM (mq nm v u 3)) 47)) from (Below.refl _ _).alloc (Nat.le_refl _) _)
                have HJ2 := Lib.hid (HJ.out.alloc HJ.out.size (.cells (aggM (mq nm v u 3)) 47))
                clear hdep ho hJ
                simp only [fill, slotOf, List.size_toArray, List.length_cons, List.length_nil, Nat.reduceAdd, List.getElem?_toArray, List.getElem?_cons_zero, List.getElem?_cons_succ, Option.bind_some, Act.put, List.setIfInBounds_toArray, List.set_cons_zero, List.set_cons_succ] at hK ⊢
                rw [h1]
                go_simp
                exact hK _ _ HJ2.out ⟨_, rfl, HM.out⟩ (F10.mono HBL.out) _ (by rw [h1]; rfl)
              · obtain rfl := Option.some.inj ho.symm
                have h1 : V 12 = .slice a n c := hdep ⟨12, .data⟩ (by simp) rfl
                obtain ⟨p, h2, hm⟩ : ∃ p, V 14 = .slice (some ⟨p, 0, none⟩) 1 1 ∧ MatsAt w5 (some ⟨p, 0, none⟩) 1 1 [mq nm v u 3] := hdep ⟨14, .data⟩ (by simp) rfl
                have HME := Lib.hid (meets_any ((HHG.out.kept HJ.out)) hm)
                clear hdep ho hJ hm
                simp only [fill, slotOf, List.size_toArray, List.length_cons, List.length_nil, Nat.reduceAdd, List.getElem?_toArray, List.getElem?_cons_zero, List.getElem?_cons_succ, Option.bind_some, Act.put, List.setIfInBounds_toArray, List.set_cons_zero, List.set_cons_succ] at hK ⊢
                rw [h1, h2]
                go_simp
                refine HME.out.mono ?_
                rintro e w6 ⟨rfl, hb6⟩
                exact hK _ _ (HJ.out.trans (hb6.mono HJ.out.size)) rfl (F10.mono hb6) _ (by rw [h1, h2]; rfl)
              · obtain rfl := Option.some.inj ho.symm
                clear hdep ho hJ
                simp only [fill, slotOf, List.size_toArray, List.length_cons, List.length_nil, Nat.reduceAdd, List.getElem?_toArray, List.getElem?_cons_zero, List.getElem?_cons_succ, Option.bind_some, Act.put, List.setIfInBounds_toArray, List.set_cons_zero, List.set_cons_succ] at hK ⊢
                go_simp
                exact hK _ _ HJ.out rfl (fun j y h => h) _ rfl
              · obtain rfl := Option.some.inj ho.symm
                have c0 := (G10.out.kept hJ).c0
                have c1 := (G10.out.kept hJ).c1
                have c2 := (G10.out.kept hJ).c2
                clear hdep ho hJ
                simp only [fill, slotOf, List.size_toArray, List.length_cons, List.length_nil, Nat.reduceAdd, List.getElem?_toArray, List.getElem?_cons_zero, List.getElem?_cons_succ, Option.bind_some, Act.put, List.setIfInBounds_toArray, List.set_cons_zero, List.set_cons_succ] at hK ⊢
                go_simp
                exact hK _ _ HJ.out rfl (fun j y h => h) _ rfl
              · obtain rfl := Option.some.inj ho.symm
                have h1 : V 17 = .agg (aggM (mq nm v u 4)) := hdep ⟨17, .data⟩ (by simp) rfl
                have HM := Lib.hid (mats_one w5 (mq nm v u 4) (HSZ.out _))
                have HBL := Lib.hid (show Below w5.heap.size w5 (w5.alloc (.cells (aggM (mq nm v u 4)) 47)) from (Below.refl _ _).alloc (Nat.le_refl _) _)
                have HJ2 := Lib.hid (HJ.out.alloc HJ.out.size (.cells (aggM (mq nm v u 4)) 47))
                clear hdep ho hJ
                simp only [fill, slotOf, List.size_toArray, List.length_cons, List.length_nil, Nat.reduceAdd, List.getElem?_toArray, List.getElem?_cons_zero, List.getElem?_cons_succ, Option.bind_some, Act.put, List.setIfInBounds_toArray, List.set_cons_zero, List.set_cons_succ] at hK ⊢
                rw [h1]
                go_simp
                exact hK _ _ HJ2.out ⟨_, rfl, HM.out⟩ (F10.mono HBL.out) _ (by rw [h1]; rfl)
              · obtain rfl := Option.some.inj ho.symm
                have h1 : V 16 = .slice a n c := hdep ⟨16, .data⟩ (by simp) rfl
                obtain ⟨p, h2, hm⟩ : ∃ p, V 18 = .slice (some ⟨p, 0, none⟩) 1 1 ∧ MatsAt w5 (some ⟨p, 0, none⟩) 1 1 [mq nm v u 4] := hdep ⟨18, .data⟩ (by simp) rfl
                have HME := Lib.hid (meets_any ((HHG.out.kept HJ.out)) hm)
                clear hdep ho hJ hm
                simp only [fill, slotOf, List.size_toArray, List.length_cons, List.length_nil, Nat.reduceAdd, List.getElem?_toArray, List.getElem?_cons_zero, List.getElem?_cons_succ, Option.bind_some, Act.put, List.setIfInBounds_toArray, List.set_cons_zero, List.set_cons_succ] at hK ⊢
                rw [h1, h2]
                go_simp
                refine HME.out.mono ?_
                rintro e w6 ⟨rfl, hb6⟩
                exact hK _ _ (HJ.out.trans (hb6.mono HJ.out.size)) rfl (F10.mono hb6) _ (by rw [h1, h2]; rfl)
              · obtain rfl := Option.some.inj ho.symm
                have h1 : V 3 = .bool (meetsB l [mq nm v u 0]) := hdep ⟨3, .data⟩ (by simp) rfl
                clear hdep ho hJ
                simp only [fill, slotOf, List.size_toArray, List.length_cons, List.length_nil, Nat.reduceAdd, List.getElem?_toArray, List.getElem?_cons_zero, List.getElem?_cons_succ, Option.bind_some, Act.put, List.setIfInBounds_toArray, List.set_cons_zero, List.set_cons_succ] at hK ⊢
                rw [h1]
                go_simp
                exact hK _ _ HJ.out rfl (fun j y h => h) _ (by rw [h1]; rfl)
              · obtain rfl := Option.some.inj ho.symm
                have h1 : V 7 = .bool (meetsB l [mq nm v u 1]) := hdep ⟨7, .data⟩ (by simp) rfl
                clear hdep ho hJ
                simp only [fill, slotOf, List.size_toArray, List.length_cons, List.length_nil, Nat.reduceAdd, List.getElem?_toArray, List.getElem?_cons_zero, List.getElem?_cons_succ, Option.bind_some, Act.put, List.setIfInBounds_toArray, List.set_cons_zero, List.set_cons_succ] at hK ⊢
                rw [h1]
                go_simp
                exact hK _ _ HJ.out rfl (fun j y h => h) _ (by rw [h1]; rfl)
              · obtain rfl := Option.some.inj ho.symm
                have h1 : V 11 = .bool (meetsB l [mq nm v u 2]) := hdep ⟨11, .data⟩ (by simp) rfl
                clear hdep ho hJ
                simp only [fill, slotOf, List.size_toArray, List.length_cons, List.length_nil, Nat.reduceAdd, List.getElem?_toArray, List.getElem?_cons_zero, List.getElem?_cons_succ, Option.bind_some, Act.put, List.setIfInBounds_toArray, List.set_cons_zero, List.set_cons_succ] at hK ⊢
                rw [h1]
                go_simp
                exact hK _ _ HJ.out rfl (fun j y h => h) _ (by rw [h1]; rfl)
              · obtain rfl := Option.some.inj ho.symm
                have h1 : V 15 = .bool (meetsB l [mq nm v u 3]) := hdep ⟨15, .data⟩ (by simp) rfl
                clear hdep ho hJ
                simp only [fill, slotOf, List.size_toArray, List.length_cons, List.length_nil, Nat.reduceAdd, List.getElem?_toArray, List.getElem?_cons_zero, List.getElem?_cons_succ, Option.bind_some, Act.put, List.setIfInBounds_toArray, List.set_cons_zero, List.set_cons_succ] at hK ⊢
                rw [h1]
                go_simp
                exact hK _ _ HJ.out rfl (fun j y h => h) _ (by rw [h1]; rfl)
              · obtain rfl := Option.some.inj ho.symm
                have h1 : V 19 = .bool (meetsB l [mq nm v u 4]) := hdep ⟨19, .data⟩ (by simp) rfl
                clear hdep ho hJ
                simp only [fill, slotOf, List.size_toArray, List.length_cons, List.length_nil, Nat.reduceAdd, List.getElem?_toArray, List.getElem?_cons_zero, List.getElem?_cons_succ, Option.bind_some, Act.put, List.setIfInBounds_toArray, List.set_cons_zero, List.set_cons_succ] at hK ⊢
                rw [h1]
                go_simp
                exact hK _ _ HJ.out rfl (fun j y h => h) _ (by rw [h1]; rfl)
            · intro V w5 hJ hall
              have r0 : V 20 = .bool (meetsB l [mq nm v u 0]) := hall 20 (by decide)
              have r1 : V 21 = .bool (meetsB l [mq nm v u 1]) := hall 21 (by decide)
              have r2 : V 22 = .bool (meetsB l [mq nm v u 2]) := hall 22 (by decide)
              have r3 : V 23 = .bool (meetsB l [mq nm v u 3]) := hall 23 (by decide)
              have r4 : V 24 = .bool (meetsB l [mq nm v u 4]) := hall 24 (by decide)
              have HJ := Lib.hid hJ
              simp only [fill, slotOf, List.size_toArray, List.length_cons, List.length_nil, Nat.reduceAdd, List.getElem?_toArray, List.getElem?_cons_zero, List.getElem?_cons_succ, Option.bind_some, Act.put, List.setIfInBounds_toArray, List.set_cons_zero, List.set_cons_succ]
              rw [r0, r1, r2, r3, r4]
              clear r0 r1 r2 r3 r4 hall hJ
              obtain ⟨b0, b1, b2, b3, b4, hb0, hb1, hb2, hb3, hb4, t1, t2, t3, t4, hb5, hb6⟩ := turns_facts l nm v u way k HS.out HAS.out HU.out
              rw [hb0, hb1, hb2, hb3, hb4]
              have HQ5 := Lib.hid hb5
              have HQ6 := Lib.hid hb6
              have e70 := (G7.out.kept HJ.out).c0
              have e71 := (G7.out.kept HJ.out).c1
              have e72 := (G7.out.kept HJ.out).c2
              have e100 := (G10.out.kept HJ.out).c0
              have e101 := (G10.out.kept HJ.out).c1
              have e102 := (G10.out.kept HJ.out).c2
              have HLW := Lib.hid (HHG.out.kept HJ.out)
              have HBW := Lib.hid (HBG.out.trans (HJ.out.mono HBG.out.size))
              have hba : Below w5.heap.size w5 (w5.alloc (.cells #[.string nm, .int .i64 1, .string v, .string nm, .int .i64 4, .string { data := #[] }] 47)) := (Below.refl _ _).alloc (Nat.le_refl _) _
              have HME := Lib.hid (meets_any (HLW.out.kept hba) (mats_two w5 (mq nm v u 0) (mq nm v u 4) (HSZ.out 0) (HSZ.out 4)))
              have HBA := Lib.hid (HBW.out.trans (hba.mono HBW.out.size))
              have HLA := Lib.hid (HLW.out.kept hba)
              have hcs := bool_cases t1 t2 t3 t4
              clear hb0 hb1 hb2 hb3 hb4 hb5 hb6 t1 t2 t3 t4 hba n78 n79 n710 n89 n810 n910
              rcases hcs with ⟨rfl, rfl, rfl, rfl, rfl⟩ | ⟨rfl, rfl, rfl, rfl, rfl⟩ | ⟨rfl, rfl, rfl, rfl, rfl⟩ | ⟨rfl, rfl, rfl, rfl, rfl⟩ | ⟨rfl, rfl, rfl, rfl, rfl⟩
              all_goals
                go_wp2_with fail
                refine HME.out.mono ?_
                rw [HQ5.out]
                rintro e w6 ⟨rfl, hb6⟩
                have HB6 := Lib.hid (HBA.out.trans (hb6.mono HBA.out.size))
                have HL6 := Lib.hid (HLA.out.kept hb6)
                clear hb6
                go_wp2_with fail
                refine (meets_any HL6.out (MatsAt.empty w6 none 0 (by omega) (fun _ => rfl))).mono ?_
                rw [HQ6.out]
                rintro e w7 ⟨rfl, hb7⟩
                have HB7 := Lib.hid (HB6.out.trans (hb7.mono HB6.out.size))
                clear hb7
                go_wp2_with fail
                go_ret
                exact ⟨rfl, HB7.out⟩
end Go.Proofs.Ytiboghehonmpnaa
