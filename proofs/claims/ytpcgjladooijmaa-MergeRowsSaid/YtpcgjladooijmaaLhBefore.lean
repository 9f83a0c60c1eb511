/- merge.Heap[[]entrepot/api.Row]: before, of a heap of lists. Written by genlhbefore.py. -/
import Derived.Test.YtpcgjladooijmaaLhRise
import Derived.Defers
import Derived.Recover
import Derived.Tactics2
import Derived.Laws.Pointers
import Derived.Deep.MidRow
namespace Go.Proofs.Ytpcgjladooijmaa
open Go.ChangeShapes Go.WideShapes Go.Deep Go.RowKit LabPlain RecPlain
set_option linter.unusedVariables false

theorem catch_lh (p : Addr) (w : World) :
    CallsD Try.prog 94 #[.pointer (some p)] .returning w fun e u' w' => e = .returned (.tuple #[]) ∧ u' = .returning ∧ w' = w := by
  refine callsD_of_wpS Try.func94 rfl fun c₀ cs hu => ?_
  apply wpS_seq
  apply wpS_region
  simp [wpOpsS, go_sem, recoverD, hu, Try.ntmps94, Exit.thenS]
  refine wpS_cond (t := false) (by simp [Act.eval, Array.replicate]) ?_
  simp only [Bool.false_eq_true, if_false]
  refine wpS_of_wp (wp_skip ?_)
  cases c₀
  simp_all [bodyPostS, results, Try.results94]

theorem step_store_bool {w : World} {bx : Nat} {r : Bool} (hbx : ∃ b, w.heap[bx]? = some (.cells #[.bool b] 4 (0, 0)))
    {o : Oper} {b : Bool} {act : Act} {K : Act → World → Prop} {Q : Exit → Act → World → Prop} {E : Prop} (hgd : b = true) (x y : Operand) (ho : o.op = .store 4 x y) (hx : act.eval x = .pointer (some ⟨bx, 0, none⟩)) (hy : act.eval y = .bool r)
    (hK : ∀ w2, (∀ w0 : World, Below bx w0 w → Below bx w0 w2) → w2.heap[bx]? = some (.cells #[.bool r] 4 (0, 0)) → K (act.put o.dst undef) w2) : if b = true then Oper.wp Try.prog o act w K Q else E := by
  rw [if_pos hgd]
  obtain ⟨u, hg⟩ := hbx
  have e2 : w.cell? ⟨bx, 0, none⟩ = some (.bool u) := cell_blk hg rfl
  have f2 : w.frozen? ⟨bx, 0, none⟩ = false := by simp [World.frozen?, hg]
  have hr := run_storeCells_cells (P := Try.prog) bx 0 [.bool r] 0 w (fun j hj => by
    obtain rfl : j = 0 := by simp at hj; omega
    exact (congrArg Option.isSome e2).trans rfl) (fun j hj => by
    obtain rfl : j = 0 := by simp at hj; omega
    exact f2) (fun v hv => by rw [List.mem_singleton.1 hv]; rfl)
  have hs : (Try.prog.info? 4).map (·.size) = some 1 := by kernel_rfl
  unfold Oper.wp execOp
  simp only [ho, hx, hy]
  cases hq : Try.prog.info? 4 with
  | none => simp [hq] at hs
  | some q =>
    rw [hq] at hs
    have hs1 : q.size = 1 := by simpa using hs
    simp only [Nat.add_zero] at hr
    simp [Instr.storeAt, Instr.sureAddr, storeVar, sizeOf, typeInfo, hq, Value.cells, hs1, hr, World.setCells]
    exact hK _ (fun _ h => h.setCell (p := ⟨bx, 0, none⟩) (Nat.le_refl _) _) (by rw [heap_setCell_same w bx 0 #[.bool u] 4 _ hg]; rfl)

def LbfF (p g off n c : Nat) (i k : Nat) (q : Nat) (x y : LsV) (r : Bool) (bx : Nat) : Nat → Value → World → Prop
  | 0, v, _ => v = .pointer (some ⟨p, 0, none⟩)
  | 1, v, _ => v = .pointer (some ⟨p, 0, none⟩)
  | 2, v, _ => v = .pointer (some ⟨p, 0, none⟩)
  | 3, v, _ => v = .func (.func 77) #[] #[.pointer (some ⟨q, 0, none⟩)]
  | 4, v, _ => v = .pointer (some ⟨p, 0, none⟩)
  | 5, v, _ => v = .pointer (some ⟨p, 0, none⟩)
  | 6, v, _ => v = .pointer (some ⟨p, 1, none⟩)
  | 7, v, _ => v = .slice (some ⟨g, off, none⟩) n c
  | 8, v, _ => v = .int .i64 (i : Int)
  | 9, v, _ => v = .pointer (some ⟨g, off + i, none⟩)
  | 10, v, _ => v = .slice x.a x.n x.c
  | 11, v, _ => v = .pointer (some ⟨p, 0, none⟩)
  | 12, v, _ => v = .pointer (some ⟨p, 0, none⟩)
  | 13, v, _ => v = .pointer (some ⟨p, 1, none⟩)
  | 14, v, _ => v = .slice (some ⟨g, off, none⟩) n c
  | 15, v, _ => v = .int .i64 (k : Int)
  | 16, v, _ => v = .pointer (some ⟨g, off + k, none⟩)
  | 17, v, _ => v = .slice y.a y.n y.c
  | 18, v, _ => v = .bool (r)
  | 19, v, w => w.heap[bx]? = some (.cells #[.bool (r)] 4 (0, 0))
  | _ + 20, _, _ => True
theorem LbfF.mono {p g off n c i k q : Nat} {x y : LsV} {r : Bool} {bx : Nat} {w w' : World} (hb : Below w.heap.size w w') : ∀ j v, LbfF p g off n c i k q x y r bx j v w → LbfF p g off n c i k q x y r bx j v w' := fun j v h =>
  match j, h with
  | 0, h => h
  | 1, h => h
  | 2, h => h
  | 3, h => h
  | 4, h => h
  | 5, h => h
  | 6, h => h
  | 7, h => h
  | 8, h => h
  | 9, h => h
  | 10, h => h
  | 11, h => h
  | 12, h => h
  | 13, h => h
  | 14, h => h
  | 15, h => h
  | 16, h => h
  | 17, h => h
  | 18, h => h
  | 19, h => (hb.block bx (Array.getElem?_eq_some_iff.1 h).1).trans h
  | _ + 20, _ => trivial
theorem LbfF.set {p g off n c i k q : Nat} {x y : LsV} {r : Bool} {bx : Nat} {w w' : World} (hb : w'.heap[bx]? = some (.cells #[.bool (r)] 4 (0, 0))) : ∀ j v, LbfF p g off n c i k q x y r bx j v w → LbfF p g off n c i k q x y r bx j v w' := fun j v h =>
  match j, h with
  | 0, h => h
  | 1, h => h
  | 2, h => h
  | 3, h => h
  | 4, h => h
  | 5, h => h
  | 6, h => h
  | 7, h => h
  | 8, h => h
  | 9, h => h
  | 10, h => h
  | 11, h => h
  | 12, h => h
  | 13, h => h
  | 14, h => h
  | 15, h => h
  | 16, h => h
  | 17, h => h
  | 18, h => h
  | 19, h => hb
  | _ + 20, _ => trivial
set_option maxRecDepth 100000 in
set_option maxHeartbeats 8000000 in
theorem lbefore_any (p g off : Nat) (n c : Nat) (q : Nat) (x y : LsV) (r : Bool) (i k : Nat) (w : World)
    (h0 : w.cell? ⟨p, 0, none⟩ = some (.func (.func 77) #[] #[.pointer (some ⟨q, 0, none⟩)])) (h1 : w.cell? ⟨p, 1, none⟩ = some (.slice (some ⟨g, off, none⟩) n c))
    (hi : i < n) (hk : k < n) (hp : p < w.heap.size) (hg : g < w.heap.size)
    (hcmp : ∀ w7, Below w.heap.size w w7 → Calls Try.prog 77 #[.slice x.a x.n x.c, .slice y.a y.n y.c, .pointer (some ⟨q, 0, none⟩)] w7 fun e w' => e = .returned (.bool r) ∧ Below w7.heap.size w7 w')
    (ci : w.cell? ⟨g, off + i, none⟩ = some (.slice x.a x.n x.c)) (ck : w.cell? ⟨g, off + k, none⟩ = some (.slice y.a y.n y.c)) :
    Calls Try.prog 87 #[.pointer (some ⟨p, 0, none⟩), .int .i64 (i : Int), .int .i64 (k : Int)] w fun e w' => e = .returned (.bool (r)) ∧ Below w.heap.size w w' := by
  have hmf : ∀ (fn : Fn) (first cap : Array Value) (w : World), (Instr.makeFunc fn first cap).run Try.prog w = .ok (.func fn first cap) w := fun _ _ _ _ => rfl
  have hi1 : (0 : Int) ≤ (i : Int) := by omega
  have hi2 : (i : Int) < (n : Int) := by omega
  have hk1 : (0 : Int) ≤ (k : Int) := by omega
  have hk2 : (k : Int) < (n : Int) := by omega
  have HCMP := Lib.hid hcmp
  have H0 := Lib.hid h0
  have H1 := Lib.hid h1
  have CI := Lib.hid ci
  have CK := Lib.hid ck
  have Hp := Lib.hid hp
  have Hg := Lib.hid hg
  clear h0 h1 ci ck hp hg hi hk hcmp
  go_enter_defers Try.func87, Try.ntmps87
  go_wp2_with fail
  refine wp_region_fill (by kernel_rfl) (by kernel_rfl) (by kernel_rfl) (fun w' => Below w.heap.size w w' ∧ ∃ b, w'.heap[w.heap.size]? = some (.cells #[.bool b] 4 (0, 0))) (LbfF p g off n c i k q x y r w.heap.size) ⟨((Below.refl _ _).alloc (Nat.le_refl _) _).drew, false, heap_alloc_new w _⟩ ?_ ?_
  · intro j o ho V w7 K hJ hdep hK
    have HJ := Lib.hid hJ
    have hi20 : j < 20 := (Array.getElem?_eq_some_iff.1 ho).1
    have hcs : j = 0 ∨ j = 1 ∨ j = 2 ∨ j = 3 ∨ j = 4 ∨ j = 5 ∨ j = 6 ∨ j = 7 ∨ j = 8 ∨ j = 9 ∨ j = 10 ∨ j = 11 ∨ j = 12 ∨ j = 13 ∨ j = 14 ∨ j = 15 ∨ j = 16 ∨ j = 17 ∨ j = 18 ∨ j = 19 := by omega
    clear hi20
    rcases hcs with rfl | rfl | rfl | rfl | rfl | rfl | rfl | rfl | rfl | rfl | rfl | rfl | rfl | rfl | rfl | rfl | rfl | rfl | rfl | rfl
    · obtain rfl := Option.some.inj ho.symm
      clear hdep ho hJ
      simp only [fill, slotOf, List.size_toArray, List.length_cons, List.length_nil, Nat.reduceAdd, List.getElem?_toArray, List.getElem?_cons_zero, List.getElem?_cons_succ, Option.bind_some, Act.put, List.setIfInBounds_toArray, List.set_cons_zero, List.set_cons_succ] at hK ⊢
      go_simp
      exact hK _ _ HJ.out rfl (fun j y h => h) _ rfl
    · obtain rfl := Option.some.inj ho.symm
      have d0 : V 0 = .pointer (some ⟨p, 0, none⟩) := hdep ⟨0, .data⟩ (by simp) rfl
      clear hdep ho hJ
      simp only [fill, slotOf, List.size_toArray, List.length_cons, List.length_nil, Nat.reduceAdd, List.getElem?_toArray, List.getElem?_cons_zero, List.getElem?_cons_succ, Option.bind_some, Act.put, List.setIfInBounds_toArray, List.set_cons_zero, List.set_cons_succ] at hK ⊢
      rw [d0] at hK ⊢
      go_simp
      exact hK _ _ HJ.out rfl (fun j y h => h) _ rfl
    · obtain rfl := Option.some.inj ho.symm
      have d1 : V 1 = .pointer (some ⟨p, 0, none⟩) := hdep ⟨1, .data⟩ (by simp) rfl
      clear hdep ho hJ
      simp only [fill, slotOf, List.size_toArray, List.length_cons, List.length_nil, Nat.reduceAdd, List.getElem?_toArray, List.getElem?_cons_zero, List.getElem?_cons_succ, Option.bind_some, Act.put, List.setIfInBounds_toArray, List.set_cons_zero, List.set_cons_succ] at hK ⊢
      rw [d1] at hK ⊢
      go_simp
      exact hK _ _ HJ.out rfl (fun j y h => h) _ rfl
    · obtain rfl := Option.some.inj ho.symm
      have d2 : V 2 = .pointer (some ⟨p, 0, none⟩) := hdep ⟨2, .data⟩ (by simp) rfl
      have cc := (HJ.out.1.cell (p := ⟨p, 0, none⟩) Hp.out).trans H0.out
      clear hdep ho hJ
      simp only [fill, slotOf, List.size_toArray, List.length_cons, List.length_nil, Nat.reduceAdd, List.getElem?_toArray, List.getElem?_cons_zero, List.getElem?_cons_succ, Option.bind_some, Act.put, List.setIfInBounds_toArray, List.set_cons_zero, List.set_cons_succ] at hK ⊢
      rw [d2] at hK ⊢
      go_simp
      exact hK _ _ HJ.out rfl (fun j y h => h) _ rfl
    · obtain rfl := Option.some.inj ho.symm
      clear hdep ho hJ
      simp only [fill, slotOf, List.size_toArray, List.length_cons, List.length_nil, Nat.reduceAdd, List.getElem?_toArray, List.getElem?_cons_zero, List.getElem?_cons_succ, Option.bind_some, Act.put, List.setIfInBounds_toArray, List.set_cons_zero, List.set_cons_succ] at hK ⊢
      go_simp
      exact hK _ _ HJ.out rfl (fun j y h => h) _ rfl
    · obtain rfl := Option.some.inj ho.symm
      have d4 : V 4 = .pointer (some ⟨p, 0, none⟩) := hdep ⟨4, .data⟩ (by simp) rfl
      clear hdep ho hJ
      simp only [fill, slotOf, List.size_toArray, List.length_cons, List.length_nil, Nat.reduceAdd, List.getElem?_toArray, List.getElem?_cons_zero, List.getElem?_cons_succ, Option.bind_some, Act.put, List.setIfInBounds_toArray, List.set_cons_zero, List.set_cons_succ] at hK ⊢
      rw [d4] at hK ⊢
      go_simp
      exact hK _ _ HJ.out rfl (fun j y h => h) _ rfl
    · obtain rfl := Option.some.inj ho.symm
      have d5 : V 5 = .pointer (some ⟨p, 0, none⟩) := hdep ⟨5, .data⟩ (by simp) rfl
      clear hdep ho hJ
      simp only [fill, slotOf, List.size_toArray, List.length_cons, List.length_nil, Nat.reduceAdd, List.getElem?_toArray, List.getElem?_cons_zero, List.getElem?_cons_succ, Option.bind_some, Act.put, List.setIfInBounds_toArray, List.set_cons_zero, List.set_cons_succ] at hK ⊢
      rw [d5] at hK ⊢
      go_simp
      exact hK _ _ HJ.out rfl (fun j y h => h) _ rfl
    · obtain rfl := Option.some.inj ho.symm
      have d6 : V 6 = .pointer (some ⟨p, 1, none⟩) := hdep ⟨6, .data⟩ (by simp) rfl
      have cc := (HJ.out.1.cell (p := ⟨p, 1, none⟩) Hp.out).trans H1.out
      clear hdep ho hJ
      simp only [fill, slotOf, List.size_toArray, List.length_cons, List.length_nil, Nat.reduceAdd, List.getElem?_toArray, List.getElem?_cons_zero, List.getElem?_cons_succ, Option.bind_some, Act.put, List.setIfInBounds_toArray, List.set_cons_zero, List.set_cons_succ] at hK ⊢
      rw [d6] at hK ⊢
      go_simp
      exact hK _ _ HJ.out rfl (fun j y h => h) _ rfl
    · obtain rfl := Option.some.inj ho.symm
      clear hdep ho hJ
      simp only [fill, slotOf, List.size_toArray, List.length_cons, List.length_nil, Nat.reduceAdd, List.getElem?_toArray, List.getElem?_cons_zero, List.getElem?_cons_succ, Option.bind_some, Act.put, List.setIfInBounds_toArray, List.set_cons_zero, List.set_cons_succ] at hK ⊢
      go_simp
      exact hK _ _ HJ.out rfl (fun j y h => h) _ rfl
    · obtain rfl := Option.some.inj ho.symm
      have d7 : V 7 = .slice (some ⟨g, off, none⟩) n c := hdep ⟨7, .data⟩ (by simp) rfl
      have d8 : V 8 = .int .i64 (i : Int) := hdep ⟨8, .data⟩ (by simp) rfl
      clear hdep ho hJ
      simp only [fill, slotOf, List.size_toArray, List.length_cons, List.length_nil, Nat.reduceAdd, List.getElem?_toArray, List.getElem?_cons_zero, List.getElem?_cons_succ, Option.bind_some, Act.put, List.setIfInBounds_toArray, List.set_cons_zero, List.set_cons_succ] at hK ⊢
      rw [d7, d8] at hK ⊢
      go_simp
      exact hK _ _ HJ.out rfl (fun j y h => h) _ rfl
    · obtain rfl := Option.some.inj ho.symm
      have d9 : V 9 = .pointer (some ⟨g, off + i, none⟩) := hdep ⟨9, .data⟩ (by simp) rfl
      have cc := (HJ.out.1.cell (p := ⟨g, off + i, none⟩) Hg.out).trans CI.out
      clear hdep ho hJ
      simp only [fill, slotOf, List.size_toArray, List.length_cons, List.length_nil, Nat.reduceAdd, List.getElem?_toArray, List.getElem?_cons_zero, List.getElem?_cons_succ, Option.bind_some, Act.put, List.setIfInBounds_toArray, List.set_cons_zero, List.set_cons_succ] at hK ⊢
      rw [d9] at hK ⊢
      go_simp
      exact hK _ _ HJ.out rfl (fun j y h => h) _ rfl
    · obtain rfl := Option.some.inj ho.symm
      clear hdep ho hJ
      simp only [fill, slotOf, List.size_toArray, List.length_cons, List.length_nil, Nat.reduceAdd, List.getElem?_toArray, List.getElem?_cons_zero, List.getElem?_cons_succ, Option.bind_some, Act.put, List.setIfInBounds_toArray, List.set_cons_zero, List.set_cons_succ] at hK ⊢
      go_simp
      exact hK _ _ HJ.out rfl (fun j y h => h) _ rfl
    · obtain rfl := Option.some.inj ho.symm
      have d11 : V 11 = .pointer (some ⟨p, 0, none⟩) := hdep ⟨11, .data⟩ (by simp) rfl
      clear hdep ho hJ
      simp only [fill, slotOf, List.size_toArray, List.length_cons, List.length_nil, Nat.reduceAdd, List.getElem?_toArray, List.getElem?_cons_zero, List.getElem?_cons_succ, Option.bind_some, Act.put, List.setIfInBounds_toArray, List.set_cons_zero, List.set_cons_succ] at hK ⊢
      rw [d11] at hK ⊢
      go_simp
      exact hK _ _ HJ.out rfl (fun j y h => h) _ rfl
    · obtain rfl := Option.some.inj ho.symm
      have d12 : V 12 = .pointer (some ⟨p, 0, none⟩) := hdep ⟨12, .data⟩ (by simp) rfl
      clear hdep ho hJ
      simp only [fill, slotOf, List.size_toArray, List.length_cons, List.length_nil, Nat.reduceAdd, List.getElem?_toArray, List.getElem?_cons_zero, List.getElem?_cons_succ, Option.bind_some, Act.put, List.setIfInBounds_toArray, List.set_cons_zero, List.set_cons_succ] at hK ⊢
      rw [d12] at hK ⊢
      go_simp
      exact hK _ _ HJ.out rfl (fun j y h => h) _ rfl
    · obtain rfl := Option.some.inj ho.symm
      have d13 : V 13 = .pointer (some ⟨p, 1, none⟩) := hdep ⟨13, .data⟩ (by simp) rfl
      have cc := (HJ.out.1.cell (p := ⟨p, 1, none⟩) Hp.out).trans H1.out
      clear hdep ho hJ
      simp only [fill, slotOf, List.size_toArray, List.length_cons, List.length_nil, Nat.reduceAdd, List.getElem?_toArray, List.getElem?_cons_zero, List.getElem?_cons_succ, Option.bind_some, Act.put, List.setIfInBounds_toArray, List.set_cons_zero, List.set_cons_succ] at hK ⊢
      rw [d13] at hK ⊢
      go_simp
      exact hK _ _ HJ.out rfl (fun j y h => h) _ rfl
    · obtain rfl := Option.some.inj ho.symm
      clear hdep ho hJ
      simp only [fill, slotOf, List.size_toArray, List.length_cons, List.length_nil, Nat.reduceAdd, List.getElem?_toArray, List.getElem?_cons_zero, List.getElem?_cons_succ, Option.bind_some, Act.put, List.setIfInBounds_toArray, List.set_cons_zero, List.set_cons_succ] at hK ⊢
      go_simp
      exact hK _ _ HJ.out rfl (fun j y h => h) _ rfl
    · obtain rfl := Option.some.inj ho.symm
      have d14 : V 14 = .slice (some ⟨g, off, none⟩) n c := hdep ⟨14, .data⟩ (by simp) rfl
      have d15 : V 15 = .int .i64 (k : Int) := hdep ⟨15, .data⟩ (by simp) rfl
      clear hdep ho hJ
      simp only [fill, slotOf, List.size_toArray, List.length_cons, List.length_nil, Nat.reduceAdd, List.getElem?_toArray, List.getElem?_cons_zero, List.getElem?_cons_succ, Option.bind_some, Act.put, List.setIfInBounds_toArray, List.set_cons_zero, List.set_cons_succ] at hK ⊢
      rw [d14, d15] at hK ⊢
      go_simp
      exact hK _ _ HJ.out rfl (fun j y h => h) _ rfl
    · obtain rfl := Option.some.inj ho.symm
      have d16 : V 16 = .pointer (some ⟨g, off + k, none⟩) := hdep ⟨16, .data⟩ (by simp) rfl
      have cc := (HJ.out.1.cell (p := ⟨g, off + k, none⟩) Hg.out).trans CK.out
      clear hdep ho hJ
      simp only [fill, slotOf, List.size_toArray, List.length_cons, List.length_nil, Nat.reduceAdd, List.getElem?_toArray, List.getElem?_cons_zero, List.getElem?_cons_succ, Option.bind_some, Act.put, List.setIfInBounds_toArray, List.set_cons_zero, List.set_cons_succ] at hK ⊢
      rw [d16] at hK ⊢
      go_simp
      exact hK _ _ HJ.out rfl (fun j y h => h) _ rfl
    · obtain rfl := Option.some.inj ho.symm
      have d3 : V 3 = .func (.func 77) #[] #[.pointer (some ⟨q, 0, none⟩)] := hdep ⟨3, .data⟩ (by simp) rfl
      have d10 : V 10 = .slice x.a x.n x.c := hdep ⟨10, .data⟩ (by simp) rfl
      have d17 : V 17 = .slice y.a y.n y.c := hdep ⟨17, .data⟩ (by simp) rfl
      clear hdep ho hJ
      simp only [fill, slotOf, List.size_toArray, List.length_cons, List.length_nil, Nat.reduceAdd, List.getElem?_toArray, List.getElem?_cons_zero, List.getElem?_cons_succ, Option.bind_some, Act.put, List.setIfInBounds_toArray, List.set_cons_zero, List.set_cons_succ] at hK ⊢
      rw [d3, d10, d17] at hK ⊢
      go_simp
      refine (HCMP.out w7 HJ.out.1).mono ?_
      rintro e w8 ⟨rfl, hb8⟩
      exact hK _ _ ⟨HJ.out.1.trans (hb8.mono HJ.out.1.size), HJ.out.2.elim fun b hbb => ⟨b, (hb8.block _ (Array.getElem?_eq_some_iff.1 hbb).1).trans hbb⟩⟩ rfl (LbfF.mono hb8) _ rfl
    · obtain rfl := Option.some.inj ho.symm
      have d18 : V 18 = .bool (r) := hdep ⟨18, .data⟩ (by simp) rfl
      have hjb := HJ.out.2
      clear hdep ho hJ
      simp only [fill, slotOf, List.size_toArray, List.length_cons, List.length_nil, Nat.reduceAdd, List.getElem?_toArray, List.getElem?_cons_zero, List.getElem?_cons_succ, Option.bind_some, Act.put, List.setIfInBounds_toArray, List.set_cons_zero, List.set_cons_succ] at hK ⊢
      rw [d18] at hK ⊢
      refine step_store_bool hjb (by first | rfl | kernel_rfl) (.tmp 6) (.tmp 26) rfl rfl rfl (fun w8 hb8 hs8 => ?_)
      exact hK undef _ ⟨hb8 _ HJ.out.1, _, hs8⟩ hs8 (LbfF.set hs8) _ rfl
  · intro V w7 hJ hall
    have h19 := hall 19 (by decide)
    have HB7 := Lib.hid hJ.1
    have e7 : w7.cell? ⟨w.heap.size, 0, none⟩ = some (.bool (r)) := cell_blk h19 rfl
    clear hall hJ h19
    simp only [fill, slotOf, List.size_toArray, List.length_cons, List.length_nil, Nat.reduceAdd, List.getElem?_toArray, List.getElem?_cons_zero, List.getElem?_cons_succ, Option.bind_some, Act.put, List.setIfInBounds_toArray, List.set_cons_zero, List.set_cons_succ]
    go_wp2_with fail
    refine leaves_cons (f := 94) (args := #[.pointer (some ⟨w.heap.size, 0, none⟩)]) (by simp) (by simp [go_sem]) ?_
    refine (catch_lh ⟨w.heap.size, 0, none⟩ _).mono ?_
    rintro e u' w'' ⟨rfl, rfl, rfl⟩
    simp [Leaves, settle, results, Try.results87, go_sem, e7]
    exact HB7.out
end Go.Proofs.Ytpcgjladooijmaa
