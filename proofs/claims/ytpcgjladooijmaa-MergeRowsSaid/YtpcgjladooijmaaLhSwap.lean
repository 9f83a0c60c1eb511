/- merge.Heap[[]entrepot/api.Row]: swap. Written by genlhswap.py. -/
import Derived.Test.YtpcgjladooijmaaLhBefore
namespace Go.Proofs.Ytpcgjladooijmaa
open Go.ChangeShapes Go.WideShapes Go.Deep Go.RowKit
set_option linter.unusedVariables false

theorem step_store_lst {w : World} {g i : Nat} {u : Value} (e2 : w.cell? ⟨g, i, none⟩ = some u) (f2 : w.frozen? ⟨g, i, none⟩ = false) {r : LsV}
    {o : Oper} {b : Bool} {act : Act} {K : Act → World → Prop} {Q : Exit → Act → World → Prop} {E : Prop} (hgd : b = true) (x y : Operand) (ho : o.op = .store 47 x y) (hx : act.eval x = .pointer (some ⟨g, i, none⟩)) (hy : act.eval y = .slice r.a r.n r.c)
    (hK : K (act.put o.dst undef) (w.setCell ⟨g, i, none⟩ (.slice r.a r.n r.c))) : if b = true then Oper.wp Try.prog o act w K Q else E := by
  rw [if_pos hgd]
  have hr := run_storeCells_cells (P := Try.prog) g i [.slice r.a r.n r.c] 0 w (fun j hj => by
    obtain rfl : j = 0 := by simp at hj; omega
    exact (congrArg Option.isSome e2).trans rfl) (fun j hj => by
    obtain rfl : j = 0 := by simp at hj; omega
    exact f2) (fun v hv => by rw [List.mem_singleton.1 hv]; rfl)
  have hs : (Try.prog.info? 47).map (·.size) = some 1 := by kernel_rfl
  unfold Oper.wp execOp
  simp only [ho, hx, hy]
  cases hq : Try.prog.info? 47 with
  | none => simp [hq] at hs
  | some q =>
    rw [hq] at hs
    have hs1 : q.size = 1 := by simpa using hs
    simp only [Nat.add_zero] at hr
    simp [Instr.storeAt, Instr.sureAddr, storeVar, sizeOf, typeInfo, hq, Value.cells, hs1, hr, World.setCells]
    exact hK

def LswF (p g off n c : Nat) (i k : Nat) (x y : LsV) : Nat → Value → Prop
  | 0, v => v = .pointer (some ⟨p, 0, none⟩)
  | 1, v => v = .pointer (some ⟨p, 0, none⟩)
  | 2, v => v = .pointer (some ⟨p, 1, none⟩)
  | 3, v => v = .slice (some ⟨g, off, none⟩) n c
  | 4, v => v = .int .i64 (i : Int)
  | 5, v => v = .pointer (some ⟨p, 0, none⟩)
  | 6, v => v = .pointer (some ⟨p, 0, none⟩)
  | 7, v => v = .pointer (some ⟨p, 1, none⟩)
  | 8, v => v = .slice (some ⟨g, off, none⟩) n c
  | 9, v => v = .int .i64 (k : Int)
  | 10, v => v = .pointer (some ⟨p, 0, none⟩)
  | 11, v => v = .pointer (some ⟨p, 0, none⟩)
  | 12, v => v = .pointer (some ⟨p, 1, none⟩)
  | 13, v => v = .slice (some ⟨g, off, none⟩) n c
  | 14, v => v = .int .i64 (k : Int)
  | 15, v => v = .pointer (some ⟨g, off + k, none⟩)
  | 16, v => v = .slice y.a y.n y.c
  | 17, v => v = .pointer (some ⟨p, 0, none⟩)
  | 18, v => v = .pointer (some ⟨p, 0, none⟩)
  | 19, v => v = .pointer (some ⟨p, 1, none⟩)
  | 20, v => v = .slice (some ⟨g, off, none⟩) n c
  | 21, v => v = .int .i64 (i : Int)
  | 22, v => v = .pointer (some ⟨g, off + i, none⟩)
  | 23, v => v = .slice x.a x.n x.c
  | 24, v => v = .pointer (some ⟨g, off + i, none⟩)
  | 25, v => True
  | 26, v => v = .pointer (some ⟨g, off + k, none⟩)
  | 27, v => True
  | _ + 28, _ => True
structure LswI (p g off n c : Nat) (i k : Nat) (x y : LsV) (w0 : World) (L : Nat → Bool) (V : Nat → Value) (w : World) : Prop where
  val : ∀ j, L j = true → LswF p g off n c i k x y j (V j)
  ld : L 25 = true → L 3 = true ∧ L 8 = true ∧ L 13 = true ∧ L 16 = true ∧ L 20 = true ∧ L 23 = true
  st : L 27 = true → L 25 = true
  wd : w = if L 27 = true then (w0.setCell ⟨g, off + i, none⟩ (.slice y.a y.n y.c)).setCell ⟨g, off + k, none⟩ (.slice x.a x.n x.c) else if L 25 = true then w0.setCell ⟨g, off + i, none⟩ (.slice y.a y.n y.c) else w0
theorem LswI.now {p g off n c i k : Nat} {x y : LsV} {w0 w : World} {L : Nat → Bool} {V : Nat → Value} (h : LswI p g off n c i k x y w0 L V w) (hf : L 25 = false) : w = w0 := by
  have h7 : ¬ L 27 = true := fun e => by rw [h.st e] at hf; cases hf
  rw [h.wd, if_neg h7, if_neg (by rw [hf]; decide)]
theorem LswI.vals {p g off n c i k : Nat} {x y : LsV} {w0 w : World} {L : Nat → Bool} {V : Nat → Value} (h : LswI p g off n c i k x y w0 L V w) {j : Nat} {u : Value} (hv : LswF p g off n c i k x y j u) : ∀ m, (L m || decide (m = j)) = true → LswF p g off n c i k x y m (upd V j u m) := by
  intro m hm
  unfold upd
  by_cases e : m = j
  · subst e; simp; exact hv
  · simp [e] at hm ⊢
    exact h.val m hm
theorem LswI.put {p g off n c i k : Nat} {x y : LsV} {w0 w : World} {L : Nat → Bool} {V : Nat → Value} (h : LswI p g off n c i k x y w0 L V w) {j : Nat} {u : Value} (hv : LswF p g off n c i k x y j u) (h5 : 25 ≠ j) (h7 : 27 ≠ j) : LswI p g off n c i k x y w0 (fun m => L m || decide (m = j)) (upd V j u) w := by
  refine ⟨h.vals hv, ?_, ?_, ?_⟩
  · simp only [decide_eq_false h5, Bool.or_false]
    intro e
    obtain ⟨a, b, c, d, e, f⟩ := h.ld e
    simp [a, b, c, d, e, f]
  · simp only [decide_eq_false h5, decide_eq_false h7, Bool.or_false]
    exact h.st
  · simp only [decide_eq_false h5, decide_eq_false h7, Bool.or_false]
    exact h.wd
theorem LswI.st1 {p g off n c i k : Nat} {x y : LsV} {w0 w : World} {L : Nat → Bool} {V : Nat → Value} (h : LswI p g off n c i k x y w0 L V w) (h5 : L 25 = false) (hl : L 3 = true ∧ L 8 = true ∧ L 13 = true ∧ L 16 = true ∧ L 20 = true ∧ L 23 = true) : LswI p g off n c i k x y w0 (fun m => L m || decide (m = 25)) (upd V 25 undef) (w.setCell ⟨g, off + i, none⟩ (.slice y.a y.n y.c)) := by
  have hw := h.now h5
  have h7 : L 27 = false := by cases e : L 27 with | false => rfl | true => rw [h.st e] at h5; cases h5
  refine ⟨h.vals trivial, fun _ => by obtain ⟨a, b, c, d, e, f⟩ := hl; simp [a, b, c, d, e, f], fun _ => by simp, ?_⟩
  simp [h7, hw]
theorem LswI.st2 {p g off n c i k : Nat} {x y : LsV} {w0 w : World} {L : Nat → Bool} {V : Nat → Value} (h : LswI p g off n c i k x y w0 L V w) (h5 : L 25 = true) (h7 : L 27 = false) : w = w0.setCell ⟨g, off + i, none⟩ (.slice y.a y.n y.c) ∧ LswI p g off n c i k x y w0 (fun m => L m || decide (m = 27)) (upd V 27 undef) (w.setCell ⟨g, off + k, none⟩ (.slice x.a x.n x.c)) := by
  have hw : w = w0.setCell ⟨g, off + i, none⟩ (.slice y.a y.n y.c) := by rw [h.wd, if_neg (by rw [h7]; decide), if_pos h5]
  refine ⟨hw, h.vals trivial, fun _ => by obtain ⟨a, b, c, d, e, f⟩ := h.ld h5; simp [a, b, c, d, e, f], fun _ => by simp [h5], ?_⟩
  simp [hw]
set_option maxRecDepth 100000 in
set_option maxHeartbeats 8000000 in
theorem lswap_any (p g off : Nat) (n c : Nat) (x y : LsV) (i k : Nat) (w : World) {cur : Array Value}
    (h1 : w.cell? ⟨p, 1, none⟩ = some (.slice (some ⟨g, off, none⟩) n c)) (hi : i < n) (hk : k < n)
    (hg : w.heap[g]? = some (.cells cur 47 (0, 0))) (ci : cur[off + i]? = some (.slice x.a x.n x.c)) (ck : cur[off + k]? = some (.slice y.a y.n y.c)) :
    Calls Try.prog 88 #[.pointer (some ⟨p, 0, none⟩), .int .i64 (i : Int), .int .i64 (k : Int)] w fun e w' => e = .returned (.tuple #[]) ∧ w' = (w.drew.setCell ⟨g, off + i, none⟩ (.slice y.a y.n y.c)).setCell ⟨g, off + k, none⟩ (.slice x.a x.n x.c) := by
  have hi1 : (0 : Int) ≤ (i : Int) := by omega
  have hi2 : (i : Int) < (n : Int) := by omega
  have hk1 : (0 : Int) ≤ (k : Int) := by omega
  have hk2 : (k : Int) < (n : Int) := by omega
  have hgd : w.drew.heap[g]? = some (.cells cur 47 (0, 0)) := hg
  have hg1 := heap_setCell_same w.drew g (off + i) cur 47 (.slice y.a y.n y.c) hgd
  have C1 := Lib.hid (show ∀ w7, w7 = w.drew → w7.cell? ⟨p, 1, none⟩ = some (.slice (some ⟨g, off, none⟩) n c) from fun w7 e => by rw [e]; exact h1)
  have CI := Lib.hid (show ∀ w7, w7 = w.drew → w7.cell? ⟨g, off + i, none⟩ = some (.slice x.a x.n x.c) from fun w7 e => by rw [e]; exact cell_blk hgd ci)
  have CK := Lib.hid (show ∀ w7, w7 = w.drew → w7.cell? ⟨g, off + k, none⟩ = some (.slice y.a y.n y.c) from fun w7 e => by rw [e]; exact cell_blk hgd ck)
  have FI := Lib.hid (show ∀ w7, w7 = w.drew → w7.frozen? ⟨g, off + i, none⟩ = false from fun w7 e => by rw [e]; simp [World.frozen?, hgd])
  have CK2 := Lib.hid (show ∀ w7, w7 = w.drew.setCell ⟨g, off + i, none⟩ (.slice y.a y.n y.c) → ∃ u, w7.cell? ⟨g, off + k, none⟩ = some u from fun w7 e => by
    rw [e]
    have hlt : off + k < (cur.setIfInBounds (off + i) (.slice y.a y.n y.c)).size := by rw [Array.size_setIfInBounds]; exact (Array.getElem?_eq_some_iff.1 ck).1
    exact ⟨_, cell_blk hg1 (Array.getElem?_eq_some_iff.2 ⟨hlt, rfl⟩)⟩)
  have FK2 := Lib.hid (show ∀ w7, w7 = w.drew.setCell ⟨g, off + i, none⟩ (.slice y.a y.n y.c) → w7.frozen? ⟨g, off + k, none⟩ = false from fun w7 e => by rw [e]; simp [World.frozen?, hg1])
  clear h1 hi hk hg ci ck hgd hg1
  go_enter Try.func88, Try.ntmps88
  go_wp2_with fail
  refine wp_region_inv (by kernel_rfl) (by kernel_rfl) (by kernel_rfl) (LswI p g off n c i k x y w.drew) (fun V => ⟨fun _ h => Bool.noConfusion h, fun h => Bool.noConfusion h, fun h => Bool.noConfusion h, rfl⟩) ?_ ?_
  · intro j o ho L V w7 K hI hL hdep hK
    have hi28 : j < 28 := (Array.getElem?_eq_some_iff.1 ho).1
    have hcs : j = 0 ∨ j = 1 ∨ j = 2 ∨ j = 3 ∨ j = 4 ∨ j = 5 ∨ j = 6 ∨ j = 7 ∨ j = 8 ∨ j = 9 ∨ j = 10 ∨ j = 11 ∨ j = 12 ∨ j = 13 ∨ j = 14 ∨ j = 15 ∨ j = 16 ∨ j = 17 ∨ j = 18 ∨ j = 19 ∨ j = 20 ∨ j = 21 ∨ j = 22 ∨ j = 23 ∨ j = 24 ∨ j = 25 ∨ j = 26 ∨ j = 27 := by omega
    clear hi28
    rcases hcs with rfl | rfl | rfl | rfl | rfl | rfl | rfl | rfl | rfl | rfl | rfl | rfl | rfl | rfl | rfl | rfl | rfl | rfl | rfl | rfl | rfl | rfl | rfl | rfl | rfl | rfl | rfl | rfl
    · obtain rfl := Option.some.inj ho.symm
      have HI := Lib.hid (hI.put (j := 0) (u := .pointer (some ⟨p, 0, none⟩)) rfl (by decide) (by decide))
      clear hdep ho hI
      simp only [fill, slotOf, List.size_toArray, List.length_cons, List.length_nil, Nat.reduceAdd, List.getElem?_toArray, List.getElem?_cons_zero, List.getElem?_cons_succ, Option.bind_some, Act.put, List.setIfInBounds_toArray, List.set_cons_zero, List.set_cons_succ] at hK ⊢
      go_simp
      exact hK _ _ HI.out _ rfl
    · obtain rfl := Option.some.inj ho.symm
      have d0 : V 0 = .pointer (some ⟨p, 0, none⟩) := hI.val 0 (hdep ⟨0, .data⟩ (by simp) rfl)
      have HI := Lib.hid (hI.put (j := 1) (u := .pointer (some ⟨p, 0, none⟩)) rfl (by decide) (by decide))
      clear hdep ho hI
      simp only [fill, slotOf, List.size_toArray, List.length_cons, List.length_nil, Nat.reduceAdd, List.getElem?_toArray, List.getElem?_cons_zero, List.getElem?_cons_succ, Option.bind_some, Act.put, List.setIfInBounds_toArray, List.set_cons_zero, List.set_cons_succ] at hK ⊢
      rw [d0] at hK ⊢
      go_simp
      exact hK _ _ HI.out _ rfl
    · obtain rfl := Option.some.inj ho.symm
      have d1 : V 1 = .pointer (some ⟨p, 0, none⟩) := hI.val 1 (hdep ⟨1, .data⟩ (by simp) rfl)
      have HI := Lib.hid (hI.put (j := 2) (u := .pointer (some ⟨p, 1, none⟩)) rfl (by decide) (by decide))
      clear hdep ho hI
      simp only [fill, slotOf, List.size_toArray, List.length_cons, List.length_nil, Nat.reduceAdd, List.getElem?_toArray, List.getElem?_cons_zero, List.getElem?_cons_succ, Option.bind_some, Act.put, List.setIfInBounds_toArray, List.set_cons_zero, List.set_cons_succ] at hK ⊢
      rw [d1] at hK ⊢
      go_simp
      exact hK _ _ HI.out _ rfl
    · obtain rfl := Option.some.inj ho.symm
      have d2 : V 2 = .pointer (some ⟨p, 1, none⟩) := hI.val 2 (hdep ⟨2, .data⟩ (by simp) rfl)
      have hw : w7 = w.drew := hI.now (by cases e : L 25 with | false => rfl | true => exact absurd (hI.ld e).1 (by rw [hL]; decide))
      have cc := C1.out w7 hw
      clear hw
      have HI := Lib.hid (hI.put (j := 3) (u := .slice (some ⟨g, off, none⟩) n c) rfl (by decide) (by decide))
      clear hdep ho hI
      simp only [fill, slotOf, List.size_toArray, List.length_cons, List.length_nil, Nat.reduceAdd, List.getElem?_toArray, List.getElem?_cons_zero, List.getElem?_cons_succ, Option.bind_some, Act.put, List.setIfInBounds_toArray, List.set_cons_zero, List.set_cons_succ] at hK ⊢
      rw [d2] at hK ⊢
      go_simp
      exact hK _ _ HI.out _ rfl
    · obtain rfl := Option.some.inj ho.symm
      have HI := Lib.hid (hI.put (j := 4) (u := .int .i64 (i : Int)) rfl (by decide) (by decide))
      clear hdep ho hI
      simp only [fill, slotOf, List.size_toArray, List.length_cons, List.length_nil, Nat.reduceAdd, List.getElem?_toArray, List.getElem?_cons_zero, List.getElem?_cons_succ, Option.bind_some, Act.put, List.setIfInBounds_toArray, List.set_cons_zero, List.set_cons_succ] at hK ⊢
      go_simp
      exact hK _ _ HI.out _ rfl
    · obtain rfl := Option.some.inj ho.symm
      have HI := Lib.hid (hI.put (j := 5) (u := .pointer (some ⟨p, 0, none⟩)) rfl (by decide) (by decide))
      clear hdep ho hI
      simp only [fill, slotOf, List.size_toArray, List.length_cons, List.length_nil, Nat.reduceAdd, List.getElem?_toArray, List.getElem?_cons_zero, List.getElem?_cons_succ, Option.bind_some, Act.put, List.setIfInBounds_toArray, List.set_cons_zero, List.set_cons_succ] at hK ⊢
      go_simp
      exact hK _ _ HI.out _ rfl
    · obtain rfl := Option.some.inj ho.symm
      have d5 : V 5 = .pointer (some ⟨p, 0, none⟩) := hI.val 5 (hdep ⟨5, .data⟩ (by simp) rfl)
      have HI := Lib.hid (hI.put (j := 6) (u := .pointer (some ⟨p, 0, none⟩)) rfl (by decide) (by decide))
      clear hdep ho hI
      simp only [fill, slotOf, List.size_toArray, List.length_cons, List.length_nil, Nat.reduceAdd, List.getElem?_toArray, List.getElem?_cons_zero, List.getElem?_cons_succ, Option.bind_some, Act.put, List.setIfInBounds_toArray, List.set_cons_zero, List.set_cons_succ] at hK ⊢
      rw [d5] at hK ⊢
      go_simp
      exact hK _ _ HI.out _ rfl
    · obtain rfl := Option.some.inj ho.symm
      have d6 : V 6 = .pointer (some ⟨p, 0, none⟩) := hI.val 6 (hdep ⟨6, .data⟩ (by simp) rfl)
      have HI := Lib.hid (hI.put (j := 7) (u := .pointer (some ⟨p, 1, none⟩)) rfl (by decide) (by decide))
      clear hdep ho hI
      simp only [fill, slotOf, List.size_toArray, List.length_cons, List.length_nil, Nat.reduceAdd, List.getElem?_toArray, List.getElem?_cons_zero, List.getElem?_cons_succ, Option.bind_some, Act.put, List.setIfInBounds_toArray, List.set_cons_zero, List.set_cons_succ] at hK ⊢
      rw [d6] at hK ⊢
      go_simp
      exact hK _ _ HI.out _ rfl
    · obtain rfl := Option.some.inj ho.symm
      have d7 : V 7 = .pointer (some ⟨p, 1, none⟩) := hI.val 7 (hdep ⟨7, .data⟩ (by simp) rfl)
      have hw : w7 = w.drew := hI.now (by cases e : L 25 with | false => rfl | true => exact absurd (hI.ld e).2.1 (by rw [hL]; decide))
      have cc := C1.out w7 hw
      clear hw
      have HI := Lib.hid (hI.put (j := 8) (u := .slice (some ⟨g, off, none⟩) n c) rfl (by decide) (by decide))
      clear hdep ho hI
      simp only [fill, slotOf, List.size_toArray, List.length_cons, List.length_nil, Nat.reduceAdd, List.getElem?_toArray, List.getElem?_cons_zero, List.getElem?_cons_succ, Option.bind_some, Act.put, List.setIfInBounds_toArray, List.set_cons_zero, List.set_cons_succ] at hK ⊢
      rw [d7] at hK ⊢
      go_simp
      exact hK _ _ HI.out _ rfl
    · obtain rfl := Option.some.inj ho.symm
      have HI := Lib.hid (hI.put (j := 9) (u := .int .i64 (k : Int)) rfl (by decide) (by decide))
      clear hdep ho hI
      simp only [fill, slotOf, List.size_toArray, List.length_cons, List.length_nil, Nat.reduceAdd, List.getElem?_toArray, List.getElem?_cons_zero, List.getElem?_cons_succ, Option.bind_some, Act.put, List.setIfInBounds_toArray, List.set_cons_zero, List.set_cons_succ] at hK ⊢
      go_simp
      exact hK _ _ HI.out _ rfl
    · obtain rfl := Option.some.inj ho.symm
      have HI := Lib.hid (hI.put (j := 10) (u := .pointer (some ⟨p, 0, none⟩)) rfl (by decide) (by decide))
      clear hdep ho hI
      simp only [fill, slotOf, List.size_toArray, List.length_cons, List.length_nil, Nat.reduceAdd, List.getElem?_toArray, List.getElem?_cons_zero, List.getElem?_cons_succ, Option.bind_some, Act.put, List.setIfInBounds_toArray, List.set_cons_zero, List.set_cons_succ] at hK ⊢
      go_simp
      exact hK _ _ HI.out _ rfl
    · obtain rfl := Option.some.inj ho.symm
      have d10 : V 10 = .pointer (some ⟨p, 0, none⟩) := hI.val 10 (hdep ⟨10, .data⟩ (by simp) rfl)
      have HI := Lib.hid (hI.put (j := 11) (u := .pointer (some ⟨p, 0, none⟩)) rfl (by decide) (by decide))
      clear hdep ho hI
      simp only [fill, slotOf, List.size_toArray, List.length_cons, List.length_nil, Nat.reduceAdd, List.getElem?_toArray, List.getElem?_cons_zero, List.getElem?_cons_succ, Option.bind_some, Act.put, List.setIfInBounds_toArray, List.set_cons_zero, List.set_cons_succ] at hK ⊢
      rw [d10] at hK ⊢
      go_simp
      exact hK _ _ HI.out _ rfl
    · obtain rfl := Option.some.inj ho.symm
      have d11 : V 11 = .pointer (some ⟨p, 0, none⟩) := hI.val 11 (hdep ⟨11, .data⟩ (by simp) rfl)
      have HI := Lib.hid (hI.put (j := 12) (u := .pointer (some ⟨p, 1, none⟩)) rfl (by decide) (by decide))
      clear hdep ho hI
      simp only [fill, slotOf, List.size_toArray, List.length_cons, List.length_nil, Nat.reduceAdd, List.getElem?_toArray, List.getElem?_cons_zero, List.getElem?_cons_succ, Option.bind_some, Act.put, List.setIfInBounds_toArray, List.set_cons_zero, List.set_cons_succ] at hK ⊢
      rw [d11] at hK ⊢
      go_simp
      exact hK _ _ HI.out _ rfl
    · obtain rfl := Option.some.inj ho.symm
      have d12 : V 12 = .pointer (some ⟨p, 1, none⟩) := hI.val 12 (hdep ⟨12, .data⟩ (by simp) rfl)
      have hw : w7 = w.drew := hI.now (by cases e : L 25 with | false => rfl | true => exact absurd (hI.ld e).2.2.1 (by rw [hL]; decide))
      have cc := C1.out w7 hw
      clear hw
      have HI := Lib.hid (hI.put (j := 13) (u := .slice (some ⟨g, off, none⟩) n c) rfl (by decide) (by decide))
      clear hdep ho hI
      simp only [fill, slotOf, List.size_toArray, List.length_cons, List.length_nil, Nat.reduceAdd, List.getElem?_toArray, List.getElem?_cons_zero, List.getElem?_cons_succ, Option.bind_some, Act.put, List.setIfInBounds_toArray, List.set_cons_zero, List.set_cons_succ] at hK ⊢
      rw [d12] at hK ⊢
      go_simp
      exact hK _ _ HI.out _ rfl
    · obtain rfl := Option.some.inj ho.symm
      have HI := Lib.hid (hI.put (j := 14) (u := .int .i64 (k : Int)) rfl (by decide) (by decide))
      clear hdep ho hI
      simp only [fill, slotOf, List.size_toArray, List.length_cons, List.length_nil, Nat.reduceAdd, List.getElem?_toArray, List.getElem?_cons_zero, List.getElem?_cons_succ, Option.bind_some, Act.put, List.setIfInBounds_toArray, List.set_cons_zero, List.set_cons_succ] at hK ⊢
      go_simp
      exact hK _ _ HI.out _ rfl
    · obtain rfl := Option.some.inj ho.symm
      have d13 : V 13 = .slice (some ⟨g, off, none⟩) n c := hI.val 13 (hdep ⟨13, .data⟩ (by simp) rfl)
      have d14 : V 14 = .int .i64 (k : Int) := hI.val 14 (hdep ⟨14, .data⟩ (by simp) rfl)
      have HI := Lib.hid (hI.put (j := 15) (u := .pointer (some ⟨g, off + k, none⟩)) rfl (by decide) (by decide))
      clear hdep ho hI
      simp only [fill, slotOf, List.size_toArray, List.length_cons, List.length_nil, Nat.reduceAdd, List.getElem?_toArray, List.getElem?_cons_zero, List.getElem?_cons_succ, Option.bind_some, Act.put, List.setIfInBounds_toArray, List.set_cons_zero, List.set_cons_succ] at hK ⊢
      rw [d13, d14] at hK ⊢
      go_simp
      exact hK _ _ HI.out _ rfl
    · obtain rfl := Option.some.inj ho.symm
      have d15 : V 15 = .pointer (some ⟨g, off + k, none⟩) := hI.val 15 (hdep ⟨15, .data⟩ (by simp) rfl)
      have hw : w7 = w.drew := hI.now (by cases e : L 25 with | false => rfl | true => exact absurd (hI.ld e).2.2.2.1 (by rw [hL]; decide))
      have cc := CK.out w7 hw
      clear hw
      have HI := Lib.hid (hI.put (j := 16) (u := .slice y.a y.n y.c) rfl (by decide) (by decide))
      clear hdep ho hI
      simp only [fill, slotOf, List.size_toArray, List.length_cons, List.length_nil, Nat.reduceAdd, List.getElem?_toArray, List.getElem?_cons_zero, List.getElem?_cons_succ, Option.bind_some, Act.put, List.setIfInBounds_toArray, List.set_cons_zero, List.set_cons_succ] at hK ⊢
      rw [d15] at hK ⊢
      go_simp
      exact hK _ _ HI.out _ rfl
    · obtain rfl := Option.some.inj ho.symm
      have HI := Lib.hid (hI.put (j := 17) (u := .pointer (some ⟨p, 0, none⟩)) rfl (by decide) (by decide))
      clear hdep ho hI
      simp only [fill, slotOf, List.size_toArray, List.length_cons, List.length_nil, Nat.reduceAdd, List.getElem?_toArray, List.getElem?_cons_zero, List.getElem?_cons_succ, Option.bind_some, Act.put, List.setIfInBounds_toArray, List.set_cons_zero, List.set_cons_succ] at hK ⊢
      go_simp
      exact hK _ _ HI.out _ rfl
    · obtain rfl := Option.some.inj ho.symm
      have d17 : V 17 = .pointer (some ⟨p, 0, none⟩) := hI.val 17 (hdep ⟨17, .data⟩ (by simp) rfl)
      have HI := Lib.hid (hI.put (j := 18) (u := .pointer (some ⟨p, 0, none⟩)) rfl (by decide) (by decide))
      clear hdep ho hI
      simp only [fill, slotOf, List.size_toArray, List.length_cons, List.length_nil, Nat.reduceAdd, List.getElem?_toArray, List.getElem?_cons_zero, List.getElem?_cons_succ, Option.bind_some, Act.put, List.setIfInBounds_toArray, List.set_cons_zero, List.set_cons_succ] at hK ⊢
      rw [d17] at hK ⊢
      go_simp
      exact hK _ _ HI.out _ rfl
    · obtain rfl := Option.some.inj ho.symm
      have d18 : V 18 = .pointer (some ⟨p, 0, none⟩) := hI.val 18 (hdep ⟨18, .data⟩ (by simp) rfl)
      have HI := Lib.hid (hI.put (j := 19) (u := .pointer (some ⟨p, 1, none⟩)) rfl (by decide) (by decide))
      clear hdep ho hI
      simp only [fill, slotOf, List.size_toArray, List.length_cons, List.length_nil, Nat.reduceAdd, List.getElem?_toArray, List.getElem?_cons_zero, List.getElem?_cons_succ, Option.bind_some, Act.put, List.setIfInBounds_toArray, List.set_cons_zero, List.set_cons_succ] at hK ⊢
      rw [d18] at hK ⊢
      go_simp
      exact hK _ _ HI.out _ rfl
    · obtain rfl := Option.some.inj ho.symm
      have d19 : V 19 = .pointer (some ⟨p, 1, none⟩) := hI.val 19 (hdep ⟨19, .data⟩ (by simp) rfl)
      have hw : w7 = w.drew := hI.now (by cases e : L 25 with | false => rfl | true => exact absurd (hI.ld e).2.2.2.2.1 (by rw [hL]; decide))
      have cc := C1.out w7 hw
      clear hw
      have HI := Lib.hid (hI.put (j := 20) (u := .slice (some ⟨g, off, none⟩) n c) rfl (by decide) (by decide))
      clear hdep ho hI
      simp only [fill, slotOf, List.size_toArray, List.length_cons, List.length_nil, Nat.reduceAdd, List.getElem?_toArray, List.getElem?_cons_zero, List.getElem?_cons_succ, Option.bind_some, Act.put, List.setIfInBounds_toArray, List.set_cons_zero, List.set_cons_succ] at hK ⊢
      rw [d19] at hK ⊢
      go_simp
      exact hK _ _ HI.out _ rfl
    · obtain rfl := Option.some.inj ho.symm
      have HI := Lib.hid (hI.put (j := 21) (u := .int .i64 (i : Int)) rfl (by decide) (by decide))
      clear hdep ho hI
      simp only [fill, slotOf, List.size_toArray, List.length_cons, List.length_nil, Nat.reduceAdd, List.getElem?_toArray, List.getElem?_cons_zero, List.getElem?_cons_succ, Option.bind_some, Act.put, List.setIfInBounds_toArray, List.set_cons_zero, List.set_cons_succ] at hK ⊢
      go_simp
      exact hK _ _ HI.out _ rfl
    · obtain rfl := Option.some.inj ho.symm
      have d20 : V 20 = .slice (some ⟨g, off, none⟩) n c := hI.val 20 (hdep ⟨20, .data⟩ (by simp) rfl)
      have d21 : V 21 = .int .i64 (i : Int) := hI.val 21 (hdep ⟨21, .data⟩ (by simp) rfl)
      have HI := Lib.hid (hI.put (j := 22) (u := .pointer (some ⟨g, off + i, none⟩)) rfl (by decide) (by decide))
      clear hdep ho hI
      simp only [fill, slotOf, List.size_toArray, List.length_cons, List.length_nil, Nat.reduceAdd, List.getElem?_toArray, List.getElem?_cons_zero, List.getElem?_cons_succ, Option.bind_some, Act.put, List.setIfInBounds_toArray, List.set_cons_zero, List.set_cons_succ] at hK ⊢
      rw [d20, d21] at hK ⊢
      go_simp
      exact hK _ _ HI.out _ rfl
    · obtain rfl := Option.some.inj ho.symm
      have d22 : V 22 = .pointer (some ⟨g, off + i, none⟩) := hI.val 22 (hdep ⟨22, .data⟩ (by simp) rfl)
      have hw : w7 = w.drew := hI.now (by cases e : L 25 with | false => rfl | true => exact absurd (hI.ld e).2.2.2.2.2 (by rw [hL]; decide))
      have cc := CI.out w7 hw
      clear hw
      have HI := Lib.hid (hI.put (j := 23) (u := .slice x.a x.n x.c) rfl (by decide) (by decide))
      clear hdep ho hI
      simp only [fill, slotOf, List.size_toArray, List.length_cons, List.length_nil, Nat.reduceAdd, List.getElem?_toArray, List.getElem?_cons_zero, List.getElem?_cons_succ, Option.bind_some, Act.put, List.setIfInBounds_toArray, List.set_cons_zero, List.set_cons_succ] at hK ⊢
      rw [d22] at hK ⊢
      go_simp
      exact hK _ _ HI.out _ rfl
    · obtain rfl := Option.some.inj ho.symm
      have d3 : V 3 = .slice (some ⟨g, off, none⟩) n c := hI.val 3 (hdep ⟨3, .data⟩ (by simp) rfl)
      have d4 : V 4 = .int .i64 (i : Int) := hI.val 4 (hdep ⟨4, .data⟩ (by simp) rfl)
      have HI := Lib.hid (hI.put (j := 24) (u := .pointer (some ⟨g, off + i, none⟩)) rfl (by decide) (by decide))
      clear hdep ho hI
      simp only [fill, slotOf, List.size_toArray, List.length_cons, List.length_nil, Nat.reduceAdd, List.getElem?_toArray, List.getElem?_cons_zero, List.getElem?_cons_succ, Option.bind_some, Act.put, List.setIfInBounds_toArray, List.set_cons_zero, List.set_cons_succ] at hK ⊢
      rw [d3, d4] at hK ⊢
      go_simp
      exact hK _ _ HI.out _ rfl
    · obtain rfl := Option.some.inj ho.symm
      have d24 : V 24 = .pointer (some ⟨g, off + i, none⟩) := hI.val 24 (hdep ⟨24, .data⟩ (by simp) rfl)
      have d16 : V 16 = .slice y.a y.n y.c := hI.val 16 (hdep ⟨16, .data⟩ (by simp) rfl)
      have hl : L 3 = true ∧ L 8 = true ∧ L 13 = true ∧ L 16 = true ∧ L 20 = true ∧ L 23 = true := ⟨hdep ⟨3, .phase⟩ (by simp) rfl, hdep ⟨8, .phase⟩ (by simp) rfl, hdep ⟨13, .phase⟩ (by simp) rfl, hdep ⟨16, .data⟩ (by simp) rfl, hdep ⟨20, .phase⟩ (by simp) rfl, hdep ⟨23, .phase⟩ (by simp) rfl⟩
      have hw := hI.now hL
      have h2 := hI.st1 hL hl
      have cc := CI.out w7 hw
      have ff := FI.out w7 hw
      clear hdep ho hI hw hl
      simp only [fill, slotOf, List.size_toArray, List.length_cons, List.length_nil, Nat.reduceAdd, List.getElem?_toArray, List.getElem?_cons_zero, List.getElem?_cons_succ, Option.bind_some, Act.put, List.setIfInBounds_toArray, List.set_cons_zero, List.set_cons_succ] at hK ⊢
      rw [d24, d16] at hK ⊢
      exact step_store_lst cc ff (by first | rfl | kernel_rfl) (.tmp 30) (.tmp 22) rfl rfl rfl (hK _ _ h2 _ rfl)
    · obtain rfl := Option.some.inj ho.symm
      have d8 : V 8 = .slice (some ⟨g, off, none⟩) n c := hI.val 8 (hdep ⟨8, .data⟩ (by simp) rfl)
      have d9 : V 9 = .int .i64 (k : Int) := hI.val 9 (hdep ⟨9, .data⟩ (by simp) rfl)
      have HI := Lib.hid (hI.put (j := 26) (u := .pointer (some ⟨g, off + k, none⟩)) rfl (by decide) (by decide))
      clear hdep ho hI
      simp only [fill, slotOf, List.size_toArray, List.length_cons, List.length_nil, Nat.reduceAdd, List.getElem?_toArray, List.getElem?_cons_zero, List.getElem?_cons_succ, Option.bind_some, Act.put, List.setIfInBounds_toArray, List.set_cons_zero, List.set_cons_succ] at hK ⊢
      rw [d8, d9] at hK ⊢
      go_simp
      exact hK _ _ HI.out _ rfl
    · obtain rfl := Option.some.inj ho.symm
      have d26 : V 26 = .pointer (some ⟨g, off + k, none⟩) := hI.val 26 (hdep ⟨26, .data⟩ (by simp) rfl)
      have d23 : V 23 = .slice x.a x.n x.c := hI.val 23 (hdep ⟨23, .data⟩ (by simp) rfl)
      have h5 : L 25 = true := hdep ⟨25, .phase⟩ (by simp) rfl
      have h2 := hI.st2 h5 hL
      have cc := CK2.out w7 h2.1
      have ff := FK2.out w7 h2.1
      have h3 := h2.2
      clear hdep ho hI h2
      simp only [fill, slotOf, List.size_toArray, List.length_cons, List.length_nil, Nat.reduceAdd, List.getElem?_toArray, List.getElem?_cons_zero, List.getElem?_cons_succ, Option.bind_some, Act.put, List.setIfInBounds_toArray, List.set_cons_zero, List.set_cons_succ] at hK ⊢
      rw [d26, d23] at hK ⊢
      exact step_store_lst cc.choose_spec ff (by first | rfl | kernel_rfl) (.tmp 31) (.tmp 29) rfl rfl rfl (hK _ _ h3 _ rfl)
  · intro L V w7 hI hall
    have hw := hI.wd
    rw [if_pos (hall 27 (by decide))] at hw
    have HW := Lib.hid hw
    clear hI hall hw
    simp only [fill, slotOf, List.size_toArray, List.length_cons, List.length_nil, Nat.reduceAdd, List.getElem?_toArray, List.getElem?_cons_zero, List.getElem?_cons_succ, Option.bind_some, Act.put, List.setIfInBounds_toArray, List.set_cons_zero, List.set_cons_succ]
    first | go_end0 | (go_wp2_with fail; go_end0)
    exact ⟨rfl, HW.out⟩
end Go.Proofs.Ytpcgjladooijmaa
