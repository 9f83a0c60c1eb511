/- Package pace, walked: of a pace that stands anywhere in a block. -/
import Derived.Test.YtpgpgpbckjginaaOwn
import Derived.BigQuiet
import Derived.Laws.CopyRow
namespace Go.Proofs.Ytpgpgpbckjginaa
open Go.RowKit
set_option linter.unusedVariables false

/-- what a call may turn that turns one block alone, and makes new ones -/
structure Turns (B : Nat) (w w' : World) : Prop where
  os : w'.os = w.os
  tape : w'.tape = w.tape
  output : w'.output = w.output
  size : w.heap.size ≤ w'.heap.size
  block : ∀ k, k < w.heap.size → k ≠ B → w'.heap[k]? = w.heap[k]?
theorem Turns.refl (B : Nat) (w : World) : Turns B w w := ⟨rfl, rfl, rfl, Nat.le_refl _, fun _ _ _ => rfl⟩
theorem Turns.trans {B : Nat} {a b c : World} (h : Turns B a b) (g : Turns B b c) : Turns B a c :=
  ⟨g.os.trans h.os, g.tape.trans h.tape, g.output.trans h.output, Nat.le_trans h.size g.size, fun k hk hne => (g.block k (Nat.lt_of_lt_of_le hk h.size) hne).trans (h.block k hk hne)⟩
theorem Turns.set {B : Nat} {a w : World} (h : Turns B a w) (i : Nat) (u : Value) : Turns B a (w.setCell ⟨B, i, none⟩ u) :=
  h.trans ⟨rfl, rfl, rfl, by simp [World.setCell], fun k hk hne => Below.heap_setCell _ _ _ _ hne⟩
theorem Turns.below {B : Nat} {a w w' : World} (h : Turns B a w) (hb : Below w.heap.size w w') : Turns B a w' :=
  h.trans ⟨hb.os, hb.tape, hb.output, hb.size, fun k hk _ => hb.block k hk⟩
theorem Turns.alloc {B : Nat} {a w : World} (h : Turns B a w) (o : Obj) : Turns B a (w.alloc o) := h.below ((Below.refl _ _).alloc (Nat.le_refl _) o)
theorem Turns.drewN {B : Nat} {a w : World} (h : Turns B a w) (q : Nat) : Turns B a (w.drewN q) := ⟨h.os, h.tape, h.output, h.size, h.block⟩
theorem Turns.drew {B : Nat} {a w : World} (h : Turns B a w) : Turns B a w.drew := ⟨h.os, h.tape, h.output, h.size, h.block⟩
/-- nothing old is turned, where the block is a new one -/
theorem Turns.old {B b : Nat} {a w w' : World} (h : Turns B w w') (ha : Below b a w) (hb : b ≤ B) (hs : b ≤ w.heap.size) : Below b a w' :=
  ha.trans ⟨h.os, h.tape, h.output, h.size, fun k hk => h.block k (by omega) (by omega)⟩
theorem heap_set {w : World} {B : Nat} {cur : Array Value} {t : TypeId} (g : w.heap[B]? = some (.cells cur t (0, 0))) (i : Nat) (u : Value) : (w.setCell ⟨B, i, none⟩ u).heap[B]? = some (.cells (cur.setIfInBounds i u) t (0, 0)) := heap_setCell_same w B i cur t u g
theorem cell_blk {w : World} {B : Nat} {cur : Array Value} {t : TypeId} (g : w.heap[B]? = some (.cells cur t (0, 0))) {i : Nat} {u : Value} (h : cur[i]? = some u) : w.cell? ⟨B, i, none⟩ = some u := by rw [cell_of_row w _ _ _ _ (0, 0) g]; exact h
/-- what was boxed, behind a call that leaves old memory alone -/
theorem box_cell {w w2 : World} {cs : Array Value} {t : TypeId} (hb : Below (w.alloc (.cells cs t)).heap.size (w.alloc (.cells cs t)) w2) {i : Nat} {v : Value} (h : cs[i]? = some v) : w2.cell? ⟨w.heap.size, i, none⟩ = some v := by
  have hblk := heap_alloc_new w (.cells cs t)
  have hlt : w.heap.size < (w.alloc (.cells cs t)).heap.size := (Array.getElem?_eq_some_iff.1 hblk).1
  rw [hb.cell (p := ⟨w.heap.size, i, none⟩) hlt, cell_of_row _ _ _ _ _ (0, 0) hblk]
  exact h
theorem fro_blk {w : World} {B : Nat} {cur : Array Value} {t : TypeId} (g : w.heap[B]? = some (.cells cur t (0, 0))) (i : Nat) : w.frozen? ⟨B, i, none⟩ = false := by simp [World.frozen?, g]

/-- may there be so many tries, and such a wait? -/
def fitsB (tr wt : Int) : Bool := decide (1 ≤ tr ∧ tr ≤ 8 ∧ 0 ≤ wt ∧ wt ≤ 1099511627776)
theorem fits_any (tr wt : Int) (w : World) :
    Calls Try.prog 18 #[.int .i64 tr, .int .i64 wt] w fun e w' => e = .returned (.bool (fitsB tr wt)) ∧ w = w' := by
  by_cases h1 : 1 ≤ tr
  · by_cases h2 : tr ≤ 8
    · by_cases h3 : 0 ≤ wt
      · by_cases h4 : wt ≤ 1099511627776
        · have HF := Lib.hid (show fitsB tr wt = true from decide_eq_true ⟨h1, h2, h3, h4⟩)
          go_enter Try.func18, Try.ntmps18
          go_wp2_with fail
          go_ret
          rw [HF.out]; exact ⟨rfl, rfl⟩
        · have HF := Lib.hid (show fitsB tr wt = false from decide_eq_false (by omega))
          have h4i : 1099511627776 < wt := by omega
          clear h4
          go_enter Try.func18, Try.ntmps18
          go_wp2_with fail
          go_ret
          rw [HF.out]; exact ⟨by simp; omega, rfl⟩
      · have HF := Lib.hid (show fitsB tr wt = false from decide_eq_false (by omega))
        have h3i : wt < 0 := by omega
        clear h3
        go_enter Try.func18, Try.ntmps18
        go_wp2_with fail
        go_ret
        rw [HF.out]; exact ⟨rfl, rfl⟩
    · have HF := Lib.hid (show fitsB tr wt = false from decide_eq_false (by omega))
      have h2i : 8 < tr := by omega
      clear h2
      go_enter Try.func18, Try.ntmps18
      go_wp2_with fail
      go_ret
      rw [HF.out]; exact ⟨rfl, rfl⟩
  · have HF := Lib.hid (show fitsB tr wt = false from decide_eq_false (by omega))
    have h1i : tr < 1 := by omega
    clear h1
    go_enter Try.func18, Try.ntmps18
    go_wp2_with fail
    go_ret
    rw [HF.out]; exact ⟨rfl, rfl⟩

theorem pacenew_any (tr wt : Int) (w : World) :
    Calls Try.prog 21 #[.int .i64 tr, .int .i64 wt] w fun e w' => e = .returned (.agg #[.int .i64 tr, .int .i64 wt, .int .i64 0, .int .i64 0, .bool false]) ∧ Below w.heap.size w w' := by
  have HB := Lib.hid ((Below.refl w.heap.size w).alloc (Nat.le_refl _) (.cells #[.int .i64 tr, .int .i64 wt, .int .i64 0, .int .i64 0, .bool false] 58))
  go_enter Try.func21, Try.ntmps21
  go_wp2_with fail
  exact bodyPost_ret (v := .agg #[.int .i64 tr, .int .i64 wt, .int .i64 0, .int .i64 0, .bool false]) (by simp [results, Try.results21, go_sem]) rfl ⟨rfl, HB.out⟩

theorem passes_net (w : World) :
    Calls Try.prog 42 #[.int .i64 10] w fun e w' => e = .returned (.bool true) ∧ w = w' := by
  go_enter Try.func42, Try.ntmps42
  go_wp2_with fail
  go_ret
  exact ⟨rfl, rfl⟩

theorem tell_yes {w : World} {B o : Nat} {cur : Array Value} {t : TypeId} {rd now : Int} (g : w.heap[B]? = some (.cells cur t (0, 0))) (ct : cur[o + 4]? = some (.bool false)) (cr : cur[o + 3]? = some (.int .i64 rd)) (h : rd ≤ now) :
    Calls Try.prog 34 #[.pointer (some ⟨B, o, none⟩), .int .i64 now] w fun e w' => e = .returned (.bool true) ∧ w'.heap[B]? = some (.cells (cur.setIfInBounds (o + 4) (.bool true)) t (0, 0)) ∧ Turns B w w' := by
  have c4 := cell_blk g ct
  have c3 := cell_blk g cr
  have f4 := fro_blk g (o + 4)
  have HG := Lib.hid (heap_set g (o + 4) (.bool true))
  have HT := Lib.hid ((Turns.refl B w).set (o + 4) (.bool true))
  clear g ct cr
  go_enter Try.func34, Try.ntmps34
  go_wp2_with fail
  go_ret
  exact ⟨rfl, HG.out, HT.out⟩
theorem tell_no {w : World} {B o : Nat} {cur : Array Value} {t : TypeId} {rd now : Int} (g : w.heap[B]? = some (.cells cur t (0, 0))) (ct : cur[o + 4]? = some (.bool false)) (cr : cur[o + 3]? = some (.int .i64 rd)) (h : now < rd) :
    Calls Try.prog 34 #[.pointer (some ⟨B, o, none⟩), .int .i64 now] w fun e w' => e = .returned (.bool false) ∧ w = w' := by
  have c4 := cell_blk g ct
  have c3 := cell_blk g cr
  clear g ct cr
  go_enter Try.func34, Try.ntmps34
  go_wp2_with fail
  go_ret
  exact ⟨rfl, rfl⟩
theorem taken_yes {w : World} {B o : Nat} {cur : Array Value} {t : TypeId} (g : w.heap[B]? = some (.cells cur t (0, 0))) (ct : cur[o + 4]? = some (.bool true)) :
    Calls Try.prog 35 #[.pointer (some ⟨B, o, none⟩)] w fun e w' => e = .returned (.bool true) ∧ w'.heap[B]? = some (.cells (cur.setIfInBounds (o + 4) (.bool false)) t (0, 0)) ∧ Turns B w w' := by
  have c4 := cell_blk g ct
  have f4 := fro_blk g (o + 4)
  have HG := Lib.hid (heap_set g (o + 4) (.bool false))
  have HT := Lib.hid ((Turns.refl B w).set (o + 4) (.bool false))
  clear g ct
  go_enter Try.func35, Try.ntmps35
  go_wp2_with fail
  go_ret
  exact ⟨rfl, HG.out, HT.out⟩
theorem fail_last {w : World} {B o : Nat} {cur : Array Value} {t : TypeId} {tr f now : Int} (g : w.heap[B]? = some (.cells cur t (0, 0))) (c0 : cur[o]? = some (.int .i64 tr)) (c2 : cur[o + 2]? = some (.int .i64 f)) (hf : 0 ≤ f ∧ f ≤ 100) (h : tr ≤ f + 1) :
    Calls Try.prog 45 #[.pointer (some ⟨B, o, none⟩), .int .i64 now] w fun e w' => e = .returned (.bool false) ∧ w'.heap[B]? = some (.cells (cur.setIfInBounds (o + 2) (.int .i64 (f + 1))) t (0, 0)) ∧ Turns B w w' := by
  have d2 := cell_blk g c2
  have f2 := fro_blk g (o + 2)
  have g2 := heap_set g (o + 2) (.int .i64 (f + 1))
  have HT := Lib.hid ((Turns.refl B w).set (o + 2) (.int .i64 (f + 1)))
  have hlt : o + 2 < cur.size := (Array.getElem?_eq_some_iff.1 c2).1
  have e0 := cell_blk g2 (i := o) (u := .int .i64 tr) (by rw [Array.getElem?_setIfInBounds_ne (by omega)]; exact c0)
  have e2 := cell_blk g2 (i := o + 2) (u := .int .i64 (f + 1)) (by rw [Array.getElem?_setIfInBounds_self_of_lt hlt])
  have HG := Lib.hid g2
  obtain ⟨hf0, hf1⟩ := hf
  clear g c0 c2 g2 hlt
  go_enter Try.func45, Try.ntmps45
  go_wp2_with fail
  go_quiet (fail)
  rename Nat => nq
  go_wp2_with fail
  go_ret
  exact ⟨rfl, HG.out, HT.out.drewN nq⟩
theorem pow_small {f : Nat} {wt : Int} (hf : f ≤ 10) (h0 : 0 ≤ wt) (h1 : wt ≤ 1000) : 0 ≤ wt * 2 ^ f ∧ wt * 2 ^ f ≤ 1024000 := by
  have hp : (2 : Nat) ^ f ≤ 2 ^ 10 := Nat.pow_le_pow_right (by omega) hf
  have hp2 : ((2 : Int) ^ f) = ((2 ^ f : Nat) : Int) := by simp
  rw [hp2]
  refine ⟨Int.mul_nonneg h0 (Int.natCast_nonneg _), ?_⟩
  calc wt * ((2 ^ f : Nat) : Int) ≤ 1000 * ((2 ^ f : Nat) : Int) := Int.mul_le_mul_of_nonneg_right h1 (Int.natCast_nonneg _)
    _ ≤ 1024000 := by omega
theorem fail_more {w : World} {B o : Nat} {cur : Array Value} {t : TypeId} {tr wt now : Int} {f : Nat} (g : w.heap[B]? = some (.cells cur t (0, 0))) (c0 : cur[o]? = some (.int .i64 tr)) (c1 : cur[o + 1]? = some (.int .i64 wt)) (c2 : cur[o + 2]? = some (.int .i64 (f : Int))) (c3 : (cur[o + 3]?).isSome) (hf : f ≤ 10) (hw : 0 ≤ wt ∧ wt ≤ 1000) (hn : 0 ≤ now ∧ now ≤ 10000000) (h : (f : Int) + 1 < tr) :
    Calls Try.prog 45 #[.pointer (some ⟨B, o, none⟩), .int .i64 now] w fun e w' => e = .returned (.bool true) ∧ w'.heap[B]? = some (.cells ((cur.setIfInBounds (o + 2) (.int .i64 ((f : Int) + 1))).setIfInBounds (o + 3) (.int .i64 (now + wt * 2 ^ f))) t (0, 0)) ∧ Turns B w w' := by
  have d2 := cell_blk g c2
  have f2 := fro_blk g (o + 2)
  have g2 := heap_set g (o + 2) (.int .i64 ((f : Int) + 1))
  have hlt : o + 2 < cur.size := (Array.getElem?_eq_some_iff.1 c2).1
  have e0 := cell_blk g2 (i := o) (u := .int .i64 tr) (by rw [Array.getElem?_setIfInBounds_ne (by omega)]; exact c0)
  have e1 := cell_blk g2 (i := o + 1) (u := .int .i64 wt) (by rw [Array.getElem?_setIfInBounds_ne (by omega)]; exact c1)
  have e2 := cell_blk g2 (i := o + 2) (u := .int .i64 ((f : Int) + 1)) (by rw [Array.getElem?_setIfInBounds_self_of_lt hlt])
  obtain ⟨u3, hu3⟩ := Option.isSome_iff_exists.1 c3
  have e3 := cell_blk g2 (i := o + 3) (u := u3) (by rw [Array.getElem?_setIfInBounds_ne (by omega)]; exact hu3)
  have f3 := fro_blk g2 (o + 3)
  obtain ⟨hw0, hw1⟩ := hw
  obtain ⟨hn0, hn1⟩ := hn
  have HG2 := Lib.hid g2
  have HT := Lib.hid ((Turns.refl B w).set (o + 2) (.int .i64 ((f : Int) + 1)))
  clear g c0 c1 c2 c3 g2 hlt hu3
  go_enter Try.func45, Try.ntmps45
  go_wp2_with fail
  go_quiet (fail)
  rename Nat => nq
  go_wp2_with fail
  go_region
  have hm := pow_small hf hw0 hw1
  have e1 : wrap64 (wt * 2 ^ f) = wt * 2 ^ f := IntWalk.wrap64_in _ (by omega)
  have e2 : wrap64 (now + wt * 2 ^ f) = now + wt * 2 ^ f := IntWalk.wrap64_in _ (by omega)
  rw [e1, e2]
  have HGF := Lib.hid (heap_set (w := (w.setCell ⟨B, o + 2, none⟩ (.int .i64 ((f : Int) + 1))).drewN (nq + 1)) HG2.out (o + 3) (.int .i64 (now + wt * 2 ^ f)))
  have HTF := Lib.hid ((HT.out.drewN (nq + 1)).set (o + 3) (.int .i64 (now + wt * 2 ^ f)))
  clear e1 e2 hm
  go_wp2_with fail
  go_ret
  exact ⟨rfl, HGF.out, HTF.out⟩
end Go.Proofs.Ytpgpgpbckjginaa
