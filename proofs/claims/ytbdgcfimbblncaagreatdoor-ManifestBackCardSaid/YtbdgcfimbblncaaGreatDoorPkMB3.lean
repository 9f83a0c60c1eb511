/- Texts put together by packtpl2.py: AnyOrd0, G2, MfE1, MfD1, MfD2, MfRis. -/
import Derived.Test.YtbdgcfimbblncaaGreatDoorPkMB1
import Derived.Test.YtbdgcfimbblncaaGreatDoorPkMB2
import Derived.Laws.Cover1
section PkMB3_0
/- A region whose operations come up in any order, as wp_region_inv, and told of the values at its start (XHpOrd, for seats with XAnyOrd). -/
namespace Go.Proofs.YtbdgcfimbblncaaGreatDoor
open Go.RowKit
set_option linter.unusedVariables false

/-- the values at the start -/
def was (ops : Array Oper) (a : Act) (i : Nat) : Value := match slotOf ops i with | some d => a.tmps.getD d undef | none => undef
theorem fill_was {ops : Array Oper} {a : Act} : ∀ k, fill ops a (was ops a) k = a
  | 0 => rfl
  | k + 1 => by
    rw [fill, fill_was k]
    unfold was
    cases h : slotOf ops k with
    | none => rfl
    | some d => exact put_self a d
theorem wp_region_inv0 {P : Program} {ops : Array Oper} {Q : Exit → Act → World → Prop} {id : Nat} {a : Act} {w : World} (hm : P.follows .mixedOrders = true)
    (hne : ((List.range ops.size).all fun i => (List.range ops.size).all fun j => decide (i = j) || (slotOf ops i == none) || !(slotOf ops i == slotOf ops j)) = true)
    (hac : ((List.range ops.size).all fun i => (ops[i]?).all fun (o : Oper) => o.after.all fun (e : Edge) => !Region.binds .any e || decide (e.on < i)) = true)
    (I : (Nat → Bool) → (Nat → Value) → World → Prop) (h0 : I (fun _ => false) (was ops a) w.drew)
    (step : ∀ (i : Nat) (o : Oper), ops[i]? = some o → ∀ (L : Nat → Bool) (v : Nat → Value) (w1 : World) (K : Act → World → Prop), I L v w1 → L i = false → (∀ e : Edge, e ∈ o.after → Region.binds .any e = true → L e.on = true) →
      (∀ x w2, I (fun j => L j || decide (j = i)) (upd v i x) w2 → ∀ a2, a2 = (fill ops a v ops.size).put o.dst x → K a2 w2) →
      if Region.wanted o (yielded ops (fill ops a v ops.size).tmps) = true then Oper.wp P o (fill ops a v ops.size) w1 K Q else K ((fill ops a v ops.size).put o.dst undef) w1)
    (last : ∀ (L : Nat → Bool) (v : Nat → Value) (w1 : World), I L v w1 → (∀ i, i < ops.size → L i = true) → Q .normal (fill ops a v ops.size) w1) : (Code.region id ops true).wp P Q a w := by
  have hne2 : ∀ i j d, i < ops.size → j < ops.size → slotOf ops i = some d → slotOf ops j = some d → i = j := by
    intro i j d hi hj h1 h2
    have := List.all_eq_true.1 (List.all_eq_true.1 hne i (List.mem_range.2 hi)) j (List.mem_range.2 hj)
    rw [h1, h2] at this
    simpa using this
  have hac2 : ∀ (i : Nat) (o : Oper), ops[i]? = some o → ∀ e : Edge, e ∈ o.after → Region.binds .any e = true → e.on < i := by
    intro i o ho e he hb
    have hlt := (Array.getElem?_eq_some_iff.1 ho).1
    have := List.all_eq_true.1 hac i (List.mem_range.2 hlt)
    rw [ho] at this
    have h3 : (o.after.all fun (e : Edge) => !Region.binds .any e || decide (e.on < i)) = true := this
    have h2 := Array.all_eq_true_iff_forall_mem.1 h3 e he
    rw [hb] at h2
    simpa using h2
  refine wp_region_any hm ?_
  have key : ∀ (fuel : Nat) (listed : Array Bool) (v : Nat → Value) (w1 : World), listed.size = ops.size → I (fun i => listed.getD i false) v w1 →
      ((List.range ops.size).filter fun i => !listed.getD i true).length ≤ fuel → wpAny P .any ops Q fuel listed (fill ops a v ops.size) w1 := by
    intro fuel
    induction fuel with
    | zero =>
      intro listed v w1 hsz hI hc
      have hall : ∀ i, i < ops.size → listed.getD i true = true := by
        intro i hi
        cases hl : listed.getD i true with
        | true => rfl
        | false =>
          have : i ∈ (List.range ops.size).filter fun i => !listed.getD i true := List.mem_filter.2 ⟨List.mem_range.2 hi, by rw [hl]; rfl⟩
          rw [List.eq_nil_of_length_eq_zero (by omega : ((List.range ops.size).filter fun i => !listed.getD i true).length = 0)] at this
          cases this
      have hr : Region.ready .any ops listed = [] := by
        rw [List.eq_nil_iff_forall_not_mem]
        intro i hi
        obtain ⟨h1, o, ho, _⟩ := mem_ready.1 hi
        rw [hall i (Array.getElem?_eq_some_iff.1 ho).1] at h1
        cases h1
      refine ⟨hr, last _ v w1 hI fun i hi => ?_⟩
      have := hall i hi
      simpa [hsz, hi] using this
    | succ fuel ih =>
      intro listed v w1 hsz hI hc
      refine ⟨fun hr => last _ v w1 hI fun i hi => ?_, fun i hi => ?_⟩
      · have : ∀ k, k < ops.size → listed.getD k false = true := by
          intro k
          induction k using Nat.strongRecOn with
          | _ k ihk =>
            intro hk
            cases hl : listed.getD k false with
            | true => rfl
            | false =>
              exfalso
              have hmem : k ∈ Region.ready .any ops listed := mem_ready.2 ⟨by simpa [hsz, hk] using hl, ops[k], by simp [hk], fun e he hb => ihk e.on (hac2 k _ (by simp [hk]) e he hb) (by have := hac2 k _ (by simp [hk] : ops[k]? = some ops[k]) e he hb; omega)⟩
              rw [hr] at hmem
              cases hmem
        exact this i hi
      · obtain ⟨h1, o, ho, h2⟩ := mem_ready.1 hi
        have hlt : i < ops.size := (Array.getElem?_eq_some_iff.1 ho).1
        have hst := step i o ho (fun i => listed.getD i false) v w1 (wpAny P .any ops Q fuel (listed.setIfInBounds i true)) hI (by simpa [hsz, hlt] using h1) h2 (fun x w2 hI2 a2 ha2 => by
          have hso : slotOf ops i = o.dst := by unfold slotOf; rw [ho]; rfl
          rw [ha2, ← hso, fill_upd hne2 x ops.size hlt (Nat.le_refl _)]
          refine ih (listed.setIfInBounds i true) (upd v i x) w2 (by simpa using hsz) ?_ ?_
          · have he : (fun j => (listed.setIfInBounds i true).getD j false) = fun j => listed.getD j false || decide (j = i) := by
              funext j
              by_cases e : j = i
              · subst e; simp [Array.getD_eq_getD_getElem?, hsz, hlt]
              · have e2 : ¬ i = j := fun h => e h.symm
                simp [Array.getD_eq_getD_getElem?, e, e2]
            rw [he]; exact hI2
          · have hlt3 := filter_less (p := fun i => !listed.getD i true) (q := fun j => !(listed.setIfInBounds i true).getD j true) (y := i) (fun j hjq => by
              by_cases e : i = j
              · subst e; simpa using h1
              · simpa [Array.getD_eq_getD_getElem?, Array.getElem?_setIfInBounds, e] using hjq) (by simpa using h1) (by simp [Array.getD_eq_getD_getElem?, hsz, hlt]) (List.range ops.size) (List.mem_range.2 hlt)
            omega)
        unfold wpOp
        rw [ho]
        show if Region.wanted o (yielded ops (fill ops a v ops.size).tmps) = true then _ else _
        split at hst
        · rename_i hw; rw [if_pos hw]; exact .inl hst
        · rename_i hw; rw [if_neg hw]; exact hst
  have hk := key ops.size (Array.replicate ops.size false) (was ops a) w.drew (by simp) (by
    have he : (fun i => (Array.replicate ops.size false).getD i false) = fun _ => false := by
      funext i
      by_cases hlt : i < ops.size <;> simp [Array.getD_eq_getD_getElem?, hlt]
    rw [he]; exact h0) (Nat.le_trans (List.length_filter_le _ _) (by simp))
  rw [fill_was] at hk
  exact hk
end Go.Proofs.YtbdgcfimbblncaaGreatDoor
end PkMB3_0
section PkMB3_1
/- A region that draws its order and makes bytes in two steps, one behind the other, reading meanwhile, with numbers written out for one of them: walked operation by operation. -/
namespace Go.Proofs.YtbdgcfimbblncaaGreatDoor
open Go.RowKit
set_option linter.unusedVariables false

/-- what has come up: values that are told; the numbers written out; the bytes as they were, behind the first step, behind the second; what was assigned last -/
structure G2 (base : Nat) (w0 : World) (vals : Nat → Option Value) (il k : Nat) (cs : Array Value) (c0 c1 c2 c3 : Nat) (vi v : Value) (n0 n1 n2 : Nat) (x0 x1 x2 : List Nat) (L : Nat → Bool) (V : Nat → Value) (w : World) : Prop where
  val : ∀ i u, L i = true → vals i = some u → V i = u
  lit : L il = true → ∃ g, V il = .slice (some ⟨g, 0, none⟩) k k ∧ w.heap[g]? = some (.cells cs 3 (0, 0))
  gb : Gb base w0 w
  o0 : L c1 = false → w.ownsRow base 5 1 v n0 (bv x0)
  o1 : L c1 = true → L c2 = false → w.ownsRow base 5 1 (V c1) n1 (bv x1)
  o2 : L c2 = true → w.ownsRow base 5 1 (V c2) n2 (bv x2)
  od : L c2 = true → L c1 = true
  ag : L c3 = true → L c2 = true ∧ V c3 = V c2
  mv : L c1 = true → L c0 = true
  ini : L c3 = false → V c3 = vi
theorem G2.old {base : Nat} {w0 w : World} {vals : Nat → Option Value} {il k : Nat} {cs : Array Value} {c0 c1 c2 c3 : Nat} {vi v : Value} {n0 n1 n2 : Nat} {x0 x1 x2 : List Nat} {L : Nat → Bool} {V : Nat → Value} (h : G2 base w0 vals il k cs c0 c1 c2 c3 vi v n0 n1 n2 x0 x1 x2 L V w) (hL : L c0 = false) : V c3 = vi := by
  refine h.ini ?_
  cases e : L c3 with
  | false => rfl
  | true => have := h.mv (h.od (h.ag e).1); rw [hL] at this; cases this
section
variable {base : Nat} {w0 w w2 : World} {vals : Nat → Option Value} {il k : Nat} {cs : Array Value} {c0 c1 c2 c3 : Nat} {vi v : Value} {n0 n1 n2 : Nat} {x0 x1 x2 : List Nat} {L : Nat → Bool} {V : Nat → Value}
theorem upd_ne {V : Nat → Value} {j i : Nat} (u : Value) (h : ¬ i = j) : upd V j u i = V i := by unfold upd; rw [if_neg h]
theorem upd_eq {V : Nat → Value} {j : Nat} (u : Value) : upd V j u j = u := by unfold upd; rw [if_pos rfl]
theorem G2.start (ho : w0.ownsRow base 5 1 v n0 (bv x0)) (hb : base ≤ w0.heap.size) {V : Nat → Value} (hV : V c3 = vi) : G2 base w0 vals il k cs c0 c1 c2 c3 vi v n0 n1 n2 x0 x1 x2 (fun _ => false) V w0.drew :=
  ⟨fun _ _ h => Bool.noConfusion h, fun h => Bool.noConfusion h, Gb.of ((Below.refl _ _).drew) hb, fun _ => own_below ho ((Below.refl _ _).drew), fun h => Bool.noConfusion h, fun h => Bool.noConfusion h, fun h => Bool.noConfusion h, fun h => Bool.noConfusion h, fun h => Bool.noConfusion h, fun _ => hV⟩
theorem G2.size (h : G2 base w0 vals il k cs c0 c1 c2 c3 vi v n0 n1 n2 x0 x1 x2 L V w) : w0.heap.size ≤ w.heap.size := h.gb.size
theorem G2.vals' (h : G2 base w0 vals il k cs c0 c1 c2 c3 vi v n0 n1 n2 x0 x1 x2 L V w) {j : Nat} {u : Value} (hv : ∀ y, vals j = some y → u = y) : ∀ i y, (L i || decide (i = j)) = true → vals i = some y → upd V j u i = y := by
  intro i y hi he
  by_cases e : i = j
  · subst e; rw [upd_eq]; exact hv y he
  · rw [upd_ne u e]
    rw [decide_eq_false e, Bool.or_false] at hi
    exact h.val i y hi he
/-- an operation that only reads -/
theorem G2.put (h : G2 base w0 vals il k cs c0 c1 c2 c3 vi v n0 n1 n2 x0 x1 x2 L V w) (j : Nat) (u : Value) (ha : (decide (il = j) || (decide (c1 = j) || (decide (c2 = j) || decide (c3 = j)))) = false) (hv : ∀ y, vals j = some y → u = y) : G2 base w0 vals il k cs c0 c1 c2 c3 vi v n0 n1 n2 x0 x1 x2 (fun i => L i || decide (i = j)) (upd V j u) w := by
  simp only [Bool.or_eq_false_iff, decide_eq_false_iff_not] at ha
  refine ⟨h.vals' hv, ?_, h.gb, ?_, ?_, ?_, ?_, ?_, ?_, ?_⟩ <;> simp only [decide_eq_false ha.1, decide_eq_false ha.2.1, decide_eq_false ha.2.2.1, decide_eq_false ha.2.2.2, Bool.or_false, upd_ne u ha.1, upd_ne u ha.2.1, upd_ne u ha.2.2.1, upd_ne u ha.2.2.2]
  · exact h.lit
  · exact h.o0
  · exact h.o1
  · exact h.o2
  · exact h.od
  · exact h.ag
  · intro e; rw [h.mv e]; rfl
  · exact h.ini
/-- the numbers are written out -/
theorem G2.putl (h : G2 base w0 vals il k cs c0 c1 c2 c3 vi v n0 n1 n2 x0 x1 x2 L V w) (hb : base ≤ w.heap.size) (ha : (decide (c1 = il) || (decide (c2 = il) || decide (c3 = il))) = false) (hv : vals il = none) : G2 base w0 vals il k cs c0 c1 c2 c3 vi v n0 n1 n2 x0 x1 x2 (fun i => L i || decide (i = il)) (upd V il (.slice (some ⟨w.heap.size, 0, none⟩) k k)) (w.alloc (.cells cs 3)) := by
  simp only [Bool.or_eq_false_iff, decide_eq_false_iff_not] at ha
  refine ⟨h.vals' (fun y e => by rw [hv] at e; cases e), fun _ => ⟨_, upd_eq _, heap_alloc_new _ _⟩, h.gb.trans (Gb.alloc w _ hb), ?_, ?_, ?_, ?_, ?_, ?_, ?_⟩ <;> simp only [decide_eq_false ha.1, decide_eq_false ha.2.1, decide_eq_false ha.2.2, Bool.or_false, upd_ne _ ha.1, upd_ne _ ha.2.1, upd_ne _ ha.2.2]
  · exact fun e => (h.o0 e).alloc _
  · exact fun e e2 => (h.o1 e e2).alloc _
  · exact fun e => (h.o2 e).alloc _
  · exact h.od
  · exact h.ag
  · intro e; rw [h.mv e]; rfl
  · exact h.ini
/-- the first step -/
theorem G2.put1 (h : G2 base w0 vals il k cs c0 c1 c2 c3 vi v n0 n1 n2 x0 x1 x2 L V w) (hL0 : L c0 = true) (hL : L c1 = false) (u : Value) (ha : (decide (il = c1) || (decide (c2 = c1) || decide (c3 = c1))) = false) (hv : vals c1 = none) (ho : w2.ownsRow base 5 1 u n1 (bv x1)) (hg : Gb base w w2) : G2 base w0 vals il k cs c0 c1 c2 c3 vi v n0 n1 n2 x0 x1 x2 (fun i => L i || decide (i = c1)) (upd V c1 u) w2 := by
  simp only [Bool.or_eq_false_iff, decide_eq_false_iff_not] at ha
  have h2 : L c2 = false := by
    cases e : L c2 with
    | false => rfl
    | true => rw [h.od e] at hL; cases hL
  refine ⟨h.vals' (fun y e => by rw [hv] at e; cases e), ?_, h.gb.trans hg, ?_, ?_, ?_, ?_, ?_, ?_, ?_⟩ <;> simp only [decide_eq_false ha.1, decide_eq_false ha.2.1, decide_eq_false ha.2.2, Bool.or_false, upd_ne _ ha.1, upd_ne _ ha.2.1, upd_ne _ ha.2.2, upd_eq]
  · exact fun e => by obtain ⟨g, e1, e2⟩ := h.lit e; exact ⟨g, e1, hg.other _ _ _ e2 (by decide)⟩
  · intro e; simp at e
  · exact fun _ _ => ho
  · rw [h2]; intro e; cases e
  · intro _; simp
  · intro e; have := (h.ag e).1; rw [h2] at this; cases this
  · intro _; rw [hL0]; rfl
  · exact h.ini
/-- the second step -/
theorem G2.put2 (h : G2 base w0 vals il k cs c0 c1 c2 c3 vi v n0 n1 n2 x0 x1 x2 L V w) (hL1 : L c1 = true) (hL : L c2 = false) (u : Value) (ha : (decide (il = c2) || (decide (c1 = c2) || decide (c3 = c2))) = false) (hv : vals c2 = none) (ho : w2.ownsRow base 5 1 u n2 (bv x2)) (hg : Gb base w w2) : G2 base w0 vals il k cs c0 c1 c2 c3 vi v n0 n1 n2 x0 x1 x2 (fun i => L i || decide (i = c2)) (upd V c2 u) w2 := by
  simp only [Bool.or_eq_false_iff, decide_eq_false_iff_not] at ha
  refine ⟨h.vals' (fun y e => by rw [hv] at e; cases e), ?_, h.gb.trans hg, ?_, ?_, ?_, ?_, ?_, ?_, ?_⟩ <;> simp only [decide_eq_false ha.1, decide_eq_false ha.2.1, decide_eq_false ha.2.2, Bool.or_false, upd_ne _ ha.1, upd_ne _ ha.2.1, upd_ne _ ha.2.2, upd_eq]
  · exact fun e => by obtain ⟨g, e1, e2⟩ := h.lit e; exact ⟨g, e1, hg.other _ _ _ e2 (by decide)⟩
  · rw [hL1]; intro e; cases e
  · intro _ e; simp at e
  · exact fun _ => ho
  · intro _; exact hL1
  · intro e; have := (h.ag e).1; rw [hL] at this; cases this
  · intro e; rw [h.mv e]; rfl
  · exact h.ini
/-- what the second step gave is assigned -/
theorem G2.put3 (h : G2 base w0 vals il k cs c0 c1 c2 c3 vi v n0 n1 n2 x0 x1 x2 L V w) (hL : L c2 = true) (ha : (decide (il = c3) || (decide (c1 = c3) || decide (c2 = c3))) = false) (hv : vals c3 = none) : G2 base w0 vals il k cs c0 c1 c2 c3 vi v n0 n1 n2 x0 x1 x2 (fun i => L i || decide (i = c3)) (upd V c3 (V c2)) w := by
  simp only [Bool.or_eq_false_iff, decide_eq_false_iff_not] at ha
  refine ⟨h.vals' (fun y e => by rw [hv] at e; cases e), ?_, h.gb, ?_, ?_, ?_, ?_, ?_, ?_, ?_⟩ <;> simp only [decide_eq_false ha.1, decide_eq_false ha.2.1, decide_eq_false ha.2.2, Bool.or_false, upd_ne _ ha.1, upd_ne _ ha.2.1, upd_ne _ ha.2.2, upd_eq]
  · exact h.lit
  · exact h.o0
  · exact h.o1
  · exact h.o2
  · exact h.od
  · exact fun _ => ⟨hL, trivial⟩
  · intro e; rw [h.mv e]; rfl
  · intro e; simp at e
end

/-- append of a text's bytes, in a region that draws its order -/
theorem step_append_str {o : Oper} {bb : Bool} {a : Act} {w : World} {K : Act → World → Prop} {Q : Exit → Act → World → Prop} {E : Prop}
    (hgd : bb = true) (s x : Operand) (ho : o.op = .call { callee := .builtin .append, args := #[s, x], argTypes := #[30, 9] })
    (base : Nat) (v : Value) (n : Nat) (xs : List Nat) (hs : a.eval s = v) (hown : w.ownsRow base 5 1 v n (bv xs)) (t : ByteArray) (hx : a.eval x = .string t)
    (h63 : n + t.size ≤ 100000000) (hbase : base ≤ w.heap.size)
    (h : ∀ v' w', w'.ownsRow base 5 1 v' (n + t.size) (bv (xs ++ byl t)) → Gb base w w' → K (a.put o.dst v') w') :
    if bb = true then Oper.wp Tryz.prog o a w K Q else E := by
  obtain ⟨i0, hi, hz0, hz1, hz2⟩ := info_parts info_u8
  rw [if_pos hgd]
  obtain ⟨v', w', hr, h2, h3, h4⟩ := Lib.run_append_own_string (P := Tryz.prog) w base 30 9 o.type 5 i0 Tryz.underlying30 Tryz.underlying9 hi hz0 hz1 hz2 v n _ hown t (by unfold maxLen; omega) (by omega) hbase
  unfold Oper.wp execOp
  simp only [ho, resolve, invoke, builtin, Sem.run_bind, Sem.run_pure, Result.andThen_ok, List.map_toArray, List.map_cons, List.map_nil, hs, hx, hr]
  exact h v' w' (by rw [bv_append, ← byl_cells]; exact h2) (Gb.grow hown hbase h3)
end Go.Proofs.YtbdgcfimbblncaaGreatDoor
end PkMB3_1
section PkMB3_2
/- Manifests: their bytes; the closures of package manifest's Encode, walked. Written by genmfe1.py. -/
namespace Go.Proofs.YtbdgcfimbblncaaGreatDoor
open Go.RowKit NumsPlain
set_option linter.unusedVariables false

def entN (x0 : ByteArray) (n1 : Nat) (x2 : ByteArray) (n3 n4 n5 n6 n7 n8 : Nat) : List Nat := ((txC x0 ++ nI [n1]) ++ txC x2) ++ nI [n3, n4, n5, n6, n7, n8]
def entC (x : EntV) : List Nat := entN x.key x.win.toNat x.part x.fst.toNat x.lst.toNat x.rows.toNat x.size.toNat x.sum.toNat x.born.toNat
def markC (x : Int × Int) : List Nat := nI [x.1.toNat, x.2.toNat]
def ownC (x : Int × Int × Int) : List Nat := nI [x.1.toNat, x.2.1.toNat, x.2.2.toNat]
/-- a number that is written -/
def InR (z : Int) : Prop := 0 ≤ z ∧ z ≤ 1099511627775
def EntNat (x : EntV) : Prop := x.key.size ≤ 100 ∧ x.part.size ≤ 1300 ∧ InR x.win ∧ InR x.fst ∧ InR x.lst ∧ InR x.rows ∧ InR x.size ∧ InR x.sum ∧ InR x.born
def MarkNat (x : Int × Int) : Prop := InR x.1 ∧ InR x.2
def OwnNat (x : Int × Int × Int) : Prop := InR x.1 ∧ InR x.2.1 ∧ InR x.2.2
theorem InR.nat {z : Int} (h : InR z) : ∃ n : Nat, z = (n : Int) ∧ n ≤ 1099511627775 := ⟨z.toNat, by have := h.1; omega, by have := h.2; omega⟩
theorem nI_bnd {l : List Nat} {m : Nat} (h : ∀ z ∈ l, z ≤ 1099511627775) (hm : l.length * 10 ≤ m) : (nI l).length ≤ m := by
  have := nI_len l (fun z hz => by have := h z hz; omega)
  omega
theorem entC_len {x : EntV} (h : EntNat x) : (entC x).length ≤ 1500 := by
  obtain ⟨h0, h2, h1, h3, h4, h5, h6, h7, h8⟩ := h
  unfold InR at h1 h3 h4 h5 h6 h7 h8
  unfold entC entN
  have a := txC_len x.key (by omega)
  have b := txC_len x.part (by omega)
  have c := nI_bnd (l := [x.win.toNat]) (m := 10) (fun z hz => by simp at hz; omega) (by simp)
  have d := nI_bnd (l := [x.fst.toNat, x.lst.toNat, x.rows.toNat, x.size.toNat, x.sum.toNat, x.born.toNat]) (m := 60) (fun z hz => by simp at hz; omega) (by simp)
  simp only [List.length_append]
  omega
theorem markC_len {x : Int × Int} (h : MarkNat x) : (markC x).length ≤ 1500 := by
  obtain ⟨h1, h2⟩ := h
  unfold InR at h1 h2
  have := nI_bnd (l := [x.1.toNat, x.2.toNat]) (m := 20) (fun z hz => by simp at hz; omega) (by simp)
  unfold markC; omega
theorem ownC_len {x : Int × Int × Int} (h : OwnNat x) : (ownC x).length ≤ 1500 := by
  obtain ⟨h1, h2, h3⟩ := h
  unfold InR at h1 h2 h3
  have := nI_bnd (l := [x.1.toNat, x.2.1.toNat, x.2.2.toNat]) (m := 30) (fun z hz => by simp at hz; omega) (by simp)
  unfold ownC; omega
theorem entC_byte {x : EntV} (h : EntNat x) : ∀ y ∈ entC x, y < 256 := by
  obtain ⟨h0, h2, h1, h3, h4, h5, h6, h7, h8⟩ := h
  unfold InR at h1 h3 h4 h5 h6 h7 h8
  intro y hy
  unfold entC entN at hy
  rcases List.mem_append.1 hy with hy | hy
  · rcases List.mem_append.1 hy with hy | hy
    · rcases List.mem_append.1 hy with hy | hy
      · exact txC_byte _ (by omega) y hy
      · exact nI_byte _ (fun z hz => by simp at hz; omega) y hy
    · exact txC_byte _ (by omega) y hy
  · exact nI_byte _ (fun z hz => by simp at hz; omega) y hy
theorem markC_byte {x : Int × Int} (h : MarkNat x) : ∀ y ∈ markC x, y < 256 := by
  obtain ⟨h1, h2⟩ := h
  unfold InR at h1 h2
  exact nI_byte _ (fun z hz => by simp at hz; omega)
theorem ownC_byte {x : Int × Int × Int} (h : OwnNat x) : ∀ y ∈ ownC x, y < 256 := by
  obtain ⟨h1, h2, h3⟩ := h
  unfold InR at h1 h2 h3
  exact nI_byte _ (fun z hz => by simp at hz; omega)
theorem cell_blk9 {w : World} {B : Nat} {cur : Array Value} {t : TypeId} (g : w.heap[B]? = some (.cells cur t (0, 0))) {i : Nat} {u : Value} (h : cur[i]? = some u) : w.cell? ⟨B, i, none⟩ = some u := by rw [cell_of_row w _ _ _ _ (0, 0) g]; exact h

set_option maxRecDepth 100000 in
set_option maxHeartbeats 4000000 in
theorem enc1_nat {w : World} {base n : Nat} {v : Value} {xs : List Nat} (ho : w.ownsRow base 5 1 v n (bv xs)) (hbs : base ≤ w.heap.size) (hn : n ≤ 80000000) (x0 : ByteArray) (n1 : Nat) (x2 : ByteArray) (n3 n4 n5 n6 n7 n8 : Nat) (h0 : x0.size ≤ 100) (h1 : n1 ≤ 1099511627775) (h2 : x2.size ≤ 1300) (h3 : n3 ≤ 1099511627775) (h4 : n4 ≤ 1099511627775) (h5 : n5 ≤ 1099511627775) (h6 : n6 ≤ 1099511627775) (h7 : n7 ≤ 1099511627775) (h8 : n8 ≤ 1099511627775) :
    Calls Tryz.prog 23 #[v, .agg #[.string x0, .int .i64 (n1 : Int), .string x2, .int .i64 (n3 : Int), .int .i64 (n4 : Int), .int .i64 (n5 : Int), .int .i64 (n6 : Int), .int .u32 (n7 : Int), .int .i64 (n8 : Int)]] w fun e w' => ∃ v', e = .returned v' ∧ w'.ownsRow base 5 1 v' (n + (entN x0 n1 x2 n3 n4 n5 n6 n7 n8).length) (bv (xs ++ entN x0 n1 x2 n3 n4 n5 n6 n7 n8)) ∧ Gb base w w' := by
  obtain ⟨a, c, rfl⟩ := own_slice ho
  have HXA := Lib.hid (heap_alloc_new w (.cells #[.string x0, .int .i64 (n1 : Int), .string x2, .int .i64 (n3 : Int), .int .i64 (n4 : Int), .int .i64 (n5 : Int), .int .i64 (n6 : Int), .int .u32 (n7 : Int), .int .i64 (n8 : Int)] 53))
  have HOA := Lib.hid (ho.alloc (.cells #[.string x0, .int .i64 (n1 : Int), .string x2, .int .i64 (n3 : Int), .int .i64 (n4 : Int), .int .i64 (n5 : Int), .int .i64 (n6 : Int), .int .u32 (n7 : Int), .int .i64 (n8 : Int)] 53))
  have HGA := Lib.hid (Gb.alloc w (.cells #[.string x0, .int .i64 (n1 : Int), .string x2, .int .i64 (n3 : Int), .int .i64 (n4 : Int), .int .i64 (n5 : Int), .int .i64 (n6 : Int), .int .u32 (n7 : Int), .int .i64 (n8 : Int)] 53) hbs)
  have HSA := Lib.hid (Nat.le_trans hbs HGA.out.size)
  obtain ⟨N1, hN1⟩ : ∃ N, N = n + (txC x0).length := ⟨_, rfl⟩
  obtain ⟨X1, hX1⟩ : ∃ X, X = xs ++ txC x0 := ⟨_, rfl⟩
  obtain ⟨N2, hN2⟩ : ∃ N, N = N1 + (nI [n1]).length := ⟨_, rfl⟩
  obtain ⟨X2, hX2⟩ : ∃ X, X = X1 ++ nI [n1] := ⟨_, rfl⟩
  obtain ⟨N3, hN3⟩ : ∃ N, N = N2 + (txC x2).length := ⟨_, rfl⟩
  obtain ⟨X3, hX3⟩ : ∃ X, X = X2 ++ txC x2 := ⟨_, rfl⟩
  obtain ⟨N4, hN4⟩ : ∃ N, N = N3 + (nI [n3, n4, n5, n6, n7, n8]).length := ⟨_, rfl⟩
  obtain ⟨X4, hX4⟩ : ∃ X, X = X3 ++ nI [n3, n4, n5, n6, n7, n8] := ⟨_, rfl⟩
  have l0 := txC_len x0 (by omega)
  have l2 := txC_len x2 (by omega)
  have l1 := nI_bnd (l := [n1]) (m := 10) (fun z hz => by simp at hz; omega) (by simp)
  have HC1 := Lib.hid (show ∀ W u, W.ownsRow base 5 1 u n (bv xs) → base ≤ W.heap.size → Calls Tryz.prog 24 #[u, .string x0] W fun e w' => ∃ v', e = .returned v' ∧ w'.ownsRow base 5 1 v' N1 (bv X1) ∧ Gb base W w' from fun W u q1 q2 => by rw [hN1, hX1]; exact mtext_any q1 q2 (by omega) x0 (by omega))
  have HC2 := Lib.hid (show ∀ W u g, W.ownsRow base 5 1 u N1 (bv X1) → base ≤ W.heap.size → W.heap[g]? = some (.cells #[.int .i64 (n1 : Int)] 3 (0, 0)) → Calls Tryz.prog 21 #[u, .slice (some ⟨g, 0, none⟩) 1 1] W fun e w' => ∃ v', e = .returned v' ∧ w'.ownsRow base 5 1 v' N2 (bv X2) ∧ Gb base W w' from fun W u g q1 q2 q3 => by rw [hN2, hX2]; exact mnums_any (.inl q1) q2 q3 rfl rfl (fun z hz => by simp at hz; omega) (by decide) (by decide) (by omega))
  have HC3 := Lib.hid (show ∀ W u, W.ownsRow base 5 1 u N2 (bv X2) → base ≤ W.heap.size → Calls Tryz.prog 24 #[u, .string x2] W fun e w' => ∃ v', e = .returned v' ∧ w'.ownsRow base 5 1 v' N3 (bv X3) ∧ Gb base W w' from fun W u q1 q2 => by rw [hN3, hX3]; exact mtext_any q1 q2 (by omega) x2 (by omega))
  have HC4 := Lib.hid (show ∀ W u g, W.ownsRow base 5 1 u N3 (bv X3) → base ≤ W.heap.size → W.heap[g]? = some (.cells #[.int .i64 (n3 : Int), .int .i64 (n4 : Int), .int .i64 (n5 : Int), .int .i64 (n6 : Int), .int .i64 (n7 : Int), .int .i64 (n8 : Int)] 3 (0, 0)) → Calls Tryz.prog 21 #[u, .slice (some ⟨g, 0, none⟩) 6 6] W fun e w' => ∃ v', e = .returned v' ∧ w'.ownsRow base 5 1 v' N4 (bv X4) ∧ Gb base W w' from fun W u g q1 q2 q3 => by rw [hN4, hX4]; exact mnums_any (.inl q1) q2 q3 rfl rfl (fun z hz => by simp at hz; omega) (by decide) (by decide) (by omega))
  have HE := Lib.hid (show N4 = n + (entN x0 n1 x2 n3 n4 n5 n6 n7 n8).length ∧ X4 = xs ++ entN x0 n1 x2 n3 n4 n5 n6 n7 n8 from ⟨by rw [hN4, hN3, hN2, hN1]; unfold entN; simp only [List.length_append]; omega, by rw [hX4, hX3, hX2, hX1]; unfold entN; simp only [List.append_assoc]⟩)
  clear ho hbs hN1 hN2 hN3 hN4 hX1 hX2 hX3 hX4 l0 l1 l2
  go_enter Tryz.func23, Tryz.ntmps23
  go_wp2_with fail
  refine wp_region_inv0 (by kernel_rfl) (by kernel_rfl) (by kernel_rfl) (G2 base (w.alloc (.cells #[.string x0, .int .i64 (n1 : Int), .string x2, .int .i64 (n3 : Int), .int .i64 (n4 : Int), .int .i64 (n5 : Int), .int .i64 (n6 : Int), .int .u32 (n7 : Int), .int .i64 (n8 : Int)] 53)) (fun j_9 => match j_9 with | 0 => some (.slice a n c) | 1 => some (.pointer (some ⟨w.heap.size, 0, none⟩)) | 2 => some (.string x0) | 3 => none | 4 => some (.pointer (some ⟨w.heap.size, 1, none⟩)) | 5 => some (.int .i64 (n1 : Int)) | 6 => none | 7 => none | 8 => none | _ => none) 6 1 (#[.int .i64 (n1 : Int)]) 0 3 7 8 (.slice a n c) (.slice a n c) (n) (N1) (N2) (xs) (X1) (X2)) (G2.start HOA.out HSA.out rfl) ?_ ?_
  · intro j9 o ho L9 V w9 K hI hL hdep hK
    have HI9 := Lib.hid hI
    have HBW := Lib.hid (Nat.le_trans HSA.out hI.size)
    have HL9 := Lib.hid hL
    simp only [fill, slotOf, List.size_toArray, List.length_cons, List.length_nil, Nat.reduceAdd, List.getElem?_toArray, List.getElem?_cons_zero, List.getElem?_cons_succ, Option.bind_some, Act.put, List.setIfInBounds_toArray, List.set_cons_zero, List.set_cons_succ] at hK ⊢
    have hin : j9 < 9 := (Array.getElem?_eq_some_iff.1 ho).1
    have hcs : j9 = 0 ∨ j9 = 1 ∨ j9 = 2 ∨ j9 = 3 ∨ j9 = 4 ∨ j9 = 5 ∨ j9 = 6 ∨ j9 = 7 ∨ j9 = 8 := by omega
    clear hin
    rcases hcs with rfl | rfl | rfl | rfl | rfl | rfl | rfl | rfl | rfl
    · obtain rfl := Option.some.inj ho.symm
      have e9 := hI.old hL
      clear hdep ho hI hL
      try simp only [fill, slotOf, List.size_toArray, List.length_cons, List.length_nil, Nat.reduceAdd, List.getElem?_toArray, List.getElem?_cons_zero, List.getElem?_cons_succ, Option.bind_some, Act.put, List.setIfInBounds_toArray, List.set_cons_zero, List.set_cons_succ] at hK ⊢
      rw [e9] at hK ⊢
      go_simp
      exact hK (.slice a n c) _ (HI9.out.put 0 _ (by decide) (fun v h => Option.some.inj h)) _ rfl
    · obtain rfl := Option.some.inj ho.symm
      clear hdep ho hI hL
      try simp only [fill, slotOf, List.size_toArray, List.length_cons, List.length_nil, Nat.reduceAdd, List.getElem?_toArray, List.getElem?_cons_zero, List.getElem?_cons_succ, Option.bind_some, Act.put, List.setIfInBounds_toArray, List.set_cons_zero, List.set_cons_succ] at hK ⊢
      go_simp
      exact hK (.pointer (some ⟨w.heap.size, 0, none⟩)) _ (HI9.out.put 1 _ (by decide) (fun v h => Option.some.inj h)) _ rfl
    · obtain rfl := Option.some.inj ho.symm
      have d1 : V 1 = .pointer (some ⟨w.heap.size, 0, none⟩) := hI.val 1 _ (hdep ⟨1, .data⟩ (by simp) rfl) rfl
      have u0 : w9.cell? ⟨w.heap.size, 0, none⟩ = some (.string x0) := cell_blk9 (hI.gb.other _ _ _ HXA.out (by decide)) rfl
      clear hdep ho hI hL
      try simp only [fill, slotOf, List.size_toArray, List.length_cons, List.length_nil, Nat.reduceAdd, List.getElem?_toArray, List.getElem?_cons_zero, List.getElem?_cons_succ, Option.bind_some, Act.put, List.setIfInBounds_toArray, List.set_cons_zero, List.set_cons_succ] at hK ⊢
      rw [d1] at hK ⊢
      go_simp
      exact hK (.string x0) _ (HI9.out.put 2 _ (by decide) (fun v h => Option.some.inj h)) _ rfl
    · obtain rfl := Option.some.inj ho.symm
      have d0 : V 0 = .slice a n c := hI.val 0 _ (hdep ⟨0, .data⟩ (by simp) rfl) rfl
      have d2 : V 2 = .string x0 := hI.val 2 _ (hdep ⟨2, .data⟩ (by simp) rfl) rfl
      have HL0 := Lib.hid (hdep ⟨0, .data⟩ (by simp) rfl : L9 0 = true)
      clear hdep ho hI hL
      try simp only [fill, slotOf, List.size_toArray, List.length_cons, List.length_nil, Nat.reduceAdd, List.getElem?_toArray, List.getElem?_cons_zero, List.getElem?_cons_succ, Option.bind_some, Act.put, List.setIfInBounds_toArray, List.set_cons_zero, List.set_cons_succ] at hK ⊢
      rw [d0, d2] at hK ⊢
      go_simp
      refine (HC1.out w9 _ (HI9.out.o0 HL9.out) HBW.out).mono ?_
      rintro e w8 ⟨u8, rfl, ho8, hg8⟩
      exact hK u8 _ (HI9.out.put1 HL0.out HL9.out u8 (by decide) rfl ho8 hg8) _ rfl
    · obtain rfl := Option.some.inj ho.symm
      clear hdep ho hI hL
      try simp only [fill, slotOf, List.size_toArray, List.length_cons, List.length_nil, Nat.reduceAdd, List.getElem?_toArray, List.getElem?_cons_zero, List.getElem?_cons_succ, Option.bind_some, Act.put, List.setIfInBounds_toArray, List.set_cons_zero, List.set_cons_succ] at hK ⊢
      go_simp
      exact hK (.pointer (some ⟨w.heap.size, 1, none⟩)) _ (HI9.out.put 4 _ (by decide) (fun v h => Option.some.inj h)) _ rfl
    · obtain rfl := Option.some.inj ho.symm
      have d4 : V 4 = .pointer (some ⟨w.heap.size, 1, none⟩) := hI.val 4 _ (hdep ⟨4, .data⟩ (by simp) rfl) rfl
      have u1 : w9.cell? ⟨w.heap.size, 1, none⟩ = some (.int .i64 (n1 : Int)) := cell_blk9 (hI.gb.other _ _ _ HXA.out (by decide)) rfl
      clear hdep ho hI hL
      try simp only [fill, slotOf, List.size_toArray, List.length_cons, List.length_nil, Nat.reduceAdd, List.getElem?_toArray, List.getElem?_cons_zero, List.getElem?_cons_succ, Option.bind_some, Act.put, List.setIfInBounds_toArray, List.set_cons_zero, List.set_cons_succ] at hK ⊢
      rw [d4] at hK ⊢
      go_simp
      exact hK (.int .i64 (n1 : Int)) _ (HI9.out.put 5 _ (by decide) (fun v h => Option.some.inj h)) _ rfl
    · obtain rfl := Option.some.inj ho.symm
      have d5 : V 5 = .int .i64 (n1 : Int) := hI.val 5 _ (hdep ⟨5, .data⟩ (by simp) rfl) rfl
      clear hdep ho hI hL
      try simp only [fill, slotOf, List.size_toArray, List.length_cons, List.length_nil, Nat.reduceAdd, List.getElem?_toArray, List.getElem?_cons_zero, List.getElem?_cons_succ, Option.bind_some, Act.put, List.setIfInBounds_toArray, List.set_cons_zero, List.set_cons_succ] at hK ⊢
      rw [d5] at hK ⊢
      go_simp
      exact hK (.slice (some ⟨w9.heap.size, 0, none⟩) 1 1) _ (HI9.out.putl HBW.out (by decide) rfl) _ rfl
    · obtain rfl := Option.some.inj ho.symm
      have HLA := Lib.hid (hdep ⟨3, .data⟩ (by simp) rfl : L9 3 = true)
      obtain ⟨g9, e9, hg9⟩ := hI.lit (hdep ⟨6, .data⟩ (by simp) rfl)
      have HG9 := Lib.hid hg9
      clear hg9
      clear hdep ho hI hL
      try simp only [fill, slotOf, List.size_toArray, List.length_cons, List.length_nil, Nat.reduceAdd, List.getElem?_toArray, List.getElem?_cons_zero, List.getElem?_cons_succ, Option.bind_some, Act.put, List.setIfInBounds_toArray, List.set_cons_zero, List.set_cons_succ] at hK ⊢
      rw [e9] at hK ⊢
      go_simp
      refine (HC2.out w9 _ g9 (HI9.out.o1 HLA.out HL9.out) HBW.out HG9.out).mono ?_
      rintro e w8 ⟨u8, rfl, ho8, hg8⟩
      exact hK u8 _ (HI9.out.put2 HLA.out HL9.out u8 (by decide) rfl ho8 hg8) _ rfl
    · obtain rfl := Option.some.inj ho.symm
      have HLA := Lib.hid (hdep ⟨7, .data⟩ (by simp) rfl : L9 7 = true)
      clear hdep ho hI hL
      try simp only [fill, slotOf, List.size_toArray, List.length_cons, List.length_nil, Nat.reduceAdd, List.getElem?_toArray, List.getElem?_cons_zero, List.getElem?_cons_succ, Option.bind_some, Act.put, List.setIfInBounds_toArray, List.set_cons_zero, List.set_cons_succ] at hK ⊢
      go_simp
      exact hK (V 7) _ (HI9.out.put3 HLA.out (by decide) rfl) _ rfl
  · intro L9 V w9 hI hall
    have k3 : V 8 = V 7 := (hI.ag (hall 8 (by decide))).2
    have HOZ := hI.o2 (hall 7 (by decide))
    have HGZ := Lib.hid hI.gb
    obtain ⟨az, cz, kz⟩ := own_slice HOZ
    rw [kz] at HOZ k3
    have HOZ := Lib.hid HOZ
    clear hI hall
    simp only [fill, slotOf, List.size_toArray, List.length_cons, List.length_nil, Nat.reduceAdd, List.getElem?_toArray, List.getElem?_cons_zero, List.getElem?_cons_succ, Option.bind_some, Act.put, List.setIfInBounds_toArray, List.set_cons_zero, List.set_cons_succ]
    rw [k3]
    clear k3 kz
    obtain ⟨wq, hwq⟩ : ∃ wq, wq = w9 := ⟨_, rfl⟩
    rw [← hwq] at HGZ HOZ ⊢
    clear hwq
    have HXB := Lib.hid (HGZ.out.other _ _ _ HXA.out (by decide))
    have HSB := Lib.hid (Nat.le_trans HSA.out HGZ.out.size)
    go_wp2_with fail
    refine wp_region_inv0 (by kernel_rfl) (by kernel_rfl) (by kernel_rfl) (G2 base wq (fun j_9 => match j_9 with | 0 => some (.slice az N2 cz) | 1 => some (.pointer (some ⟨w.heap.size, 2, none⟩)) | 2 => some (.string x2) | 3 => none | 4 => some (.pointer (some ⟨w.heap.size, 3, none⟩)) | 5 => some (.int .i64 (n3 : Int)) | 6 => some (.pointer (some ⟨w.heap.size, 4, none⟩)) | 7 => some (.int .i64 (n4 : Int)) | 8 => some (.pointer (some ⟨w.heap.size, 5, none⟩)) | 9 => some (.int .i64 (n5 : Int)) | 10 => some (.pointer (some ⟨w.heap.size, 6, none⟩)) | 11 => some (.int .i64 (n6 : Int)) | 12 => some (.pointer (some ⟨w.heap.size, 7, none⟩)) | 13 => some (.int .u32 (n7 : Int)) | 14 => some (.int .i64 (n7 : Int)) | 15 => some (.pointer (some ⟨w.heap.size, 8, none⟩)) | 16 => some (.int .i64 (n8 : Int)) | 17 => none | 18 => none | 19 => none | _ => none) 17 6 (#[.int .i64 (n3 : Int), .int .i64 (n4 : Int), .int .i64 (n5 : Int), .int .i64 (n6 : Int), .int .i64 (n7 : Int), .int .i64 (n8 : Int)]) 0 3 18 19 (.slice none 0 0) (.slice az N2 cz) (N2) (N3) (N4) (X2) (X3) (X4)) (G2.start HOZ.out HSB.out rfl) ?_ ?_
    · intro j9 o ho L9 V w9 K hI hL hdep hK
      have HI9 := Lib.hid hI
      have HBW := Lib.hid (Nat.le_trans HSB.out hI.size)
      have HL9 := Lib.hid hL
      simp only [fill, slotOf, List.size_toArray, List.length_cons, List.length_nil, Nat.reduceAdd, List.getElem?_toArray, List.getElem?_cons_zero, List.getElem?_cons_succ, Option.bind_some, Act.put, List.setIfInBounds_toArray, List.set_cons_zero, List.set_cons_succ] at hK ⊢
      have hin : j9 < 20 := (Array.getElem?_eq_some_iff.1 ho).1
      have hcs : j9 = 0 ∨ j9 = 1 ∨ j9 = 2 ∨ j9 = 3 ∨ j9 = 4 ∨ j9 = 5 ∨ j9 = 6 ∨ j9 = 7 ∨ j9 = 8 ∨ j9 = 9 ∨ j9 = 10 ∨ j9 = 11 ∨ j9 = 12 ∨ j9 = 13 ∨ j9 = 14 ∨ j9 = 15 ∨ j9 = 16 ∨ j9 = 17 ∨ j9 = 18 ∨ j9 = 19 := by omega
      clear hin
      rcases hcs with rfl | rfl | rfl | rfl | rfl | rfl | rfl | rfl | rfl | rfl | rfl | rfl | rfl | rfl | rfl | rfl | rfl | rfl | rfl | rfl
      · obtain rfl := Option.some.inj ho.symm
        clear hdep ho hI hL
        try simp only [fill, slotOf, List.size_toArray, List.length_cons, List.length_nil, Nat.reduceAdd, List.getElem?_toArray, List.getElem?_cons_zero, List.getElem?_cons_succ, Option.bind_some, Act.put, List.setIfInBounds_toArray, List.set_cons_zero, List.set_cons_succ] at hK ⊢
        go_simp
        exact hK (.slice az N2 cz) _ (HI9.out.put 0 _ (by decide) (fun v h => Option.some.inj h)) _ rfl
      · obtain rfl := Option.some.inj ho.symm
        clear hdep ho hI hL
        try simp only [fill, slotOf, List.size_toArray, List.length_cons, List.length_nil, Nat.reduceAdd, List.getElem?_toArray, List.getElem?_cons_zero, List.getElem?_cons_succ, Option.bind_some, Act.put, List.setIfInBounds_toArray, List.set_cons_zero, List.set_cons_succ] at hK ⊢
        go_simp
        exact hK (.pointer (some ⟨w.heap.size, 2, none⟩)) _ (HI9.out.put 1 _ (by decide) (fun v h => Option.some.inj h)) _ rfl
      · obtain rfl := Option.some.inj ho.symm
        have d1 : V 1 = .pointer (some ⟨w.heap.size, 2, none⟩) := hI.val 1 _ (hdep ⟨1, .data⟩ (by simp) rfl) rfl
        have u2 : w9.cell? ⟨w.heap.size, 2, none⟩ = some (.string x2) := cell_blk9 (hI.gb.other _ _ _ HXB.out (by decide)) rfl
        clear hdep ho hI hL
        try simp only [fill, slotOf, List.size_toArray, List.length_cons, List.length_nil, Nat.reduceAdd, List.getElem?_toArray, List.getElem?_cons_zero, List.getElem?_cons_succ, Option.bind_some, Act.put, List.setIfInBounds_toArray, List.set_cons_zero, List.set_cons_succ] at hK ⊢
        rw [d1] at hK ⊢
        go_simp
        exact hK (.string x2) _ (HI9.out.put 2 _ (by decide) (fun v h => Option.some.inj h)) _ rfl
      · obtain rfl := Option.some.inj ho.symm
        have d0 : V 0 = .slice az N2 cz := hI.val 0 _ (hdep ⟨0, .data⟩ (by simp) rfl) rfl
        have d2 : V 2 = .string x2 := hI.val 2 _ (hdep ⟨2, .data⟩ (by simp) rfl) rfl
        have HL0 := Lib.hid (hdep ⟨0, .data⟩ (by simp) rfl : L9 0 = true)
        clear hdep ho hI hL
        try simp only [fill, slotOf, List.size_toArray, List.length_cons, List.length_nil, Nat.reduceAdd, List.getElem?_toArray, List.getElem?_cons_zero, List.getElem?_cons_succ, Option.bind_some, Act.put, List.setIfInBounds_toArray, List.set_cons_zero, List.set_cons_succ] at hK ⊢
        rw [d0, d2] at hK ⊢
        go_simp
        refine (HC3.out w9 _ (HI9.out.o0 HL9.out) HBW.out).mono ?_
        rintro e w8 ⟨u8, rfl, ho8, hg8⟩
        exact hK u8 _ (HI9.out.put1 HL0.out HL9.out u8 (by decide) rfl ho8 hg8) _ rfl
      · obtain rfl := Option.some.inj ho.symm
        clear hdep ho hI hL
        try simp only [fill, slotOf, List.size_toArray, List.length_cons, List.length_nil, Nat.reduceAdd, List.getElem?_toArray, List.getElem?_cons_zero, List.getElem?_cons_succ, Option.bind_some, Act.put, List.setIfInBounds_toArray, List.set_cons_zero, List.set_cons_succ] at hK ⊢
        go_simp
        exact hK (.pointer (some ⟨w.heap.size, 3, none⟩)) _ (HI9.out.put 4 _ (by decide) (fun v h => Option.some.inj h)) _ rfl
      · obtain rfl := Option.some.inj ho.symm
        have d4 : V 4 = .pointer (some ⟨w.heap.size, 3, none⟩) := hI.val 4 _ (hdep ⟨4, .data⟩ (by simp) rfl) rfl
        have u3 : w9.cell? ⟨w.heap.size, 3, none⟩ = some (.int .i64 (n3 : Int)) := cell_blk9 (hI.gb.other _ _ _ HXB.out (by decide)) rfl
        clear hdep ho hI hL
        try simp only [fill, slotOf, List.size_toArray, List.length_cons, List.length_nil, Nat.reduceAdd, List.getElem?_toArray, List.getElem?_cons_zero, List.getElem?_cons_succ, Option.bind_some, Act.put, List.setIfInBounds_toArray, List.set_cons_zero, List.set_cons_succ] at hK ⊢
        rw [d4] at hK ⊢
        go_simp
        exact hK (.int .i64 (n3 : Int)) _ (HI9.out.put 5 _ (by decide) (fun v h => Option.some.inj h)) _ rfl
      · obtain rfl := Option.some.inj ho.symm
        clear hdep ho hI hL
        try simp only [fill, slotOf, List.size_toArray, List.length_cons, List.length_nil, Nat.reduceAdd, List.getElem?_toArray, List.getElem?_cons_zero, List.getElem?_cons_succ, Option.bind_some, Act.put, List.setIfInBounds_toArray, List.set_cons_zero, List.set_cons_succ] at hK ⊢
        go_simp
        exact hK (.pointer (some ⟨w.heap.size, 4, none⟩)) _ (HI9.out.put 6 _ (by decide) (fun v h => Option.some.inj h)) _ rfl
      · obtain rfl := Option.some.inj ho.symm
        have d6 : V 6 = .pointer (some ⟨w.heap.size, 4, none⟩) := hI.val 6 _ (hdep ⟨6, .data⟩ (by simp) rfl) rfl
        have u4 : w9.cell? ⟨w.heap.size, 4, none⟩ = some (.int .i64 (n4 : Int)) := cell_blk9 (hI.gb.other _ _ _ HXB.out (by decide)) rfl
        clear hdep ho hI hL
        try simp only [fill, slotOf, List.size_toArray, List.length_cons, List.length_nil, Nat.reduceAdd, List.getElem?_toArray, List.getElem?_cons_zero, List.getElem?_cons_succ, Option.bind_some, Act.put, List.setIfInBounds_toArray, List.set_cons_zero, List.set_cons_succ] at hK ⊢
        rw [d6] at hK ⊢
        go_simp
        exact hK (.int .i64 (n4 : Int)) _ (HI9.out.put 7 _ (by decide) (fun v h => Option.some.inj h)) _ rfl
      · obtain rfl := Option.some.inj ho.symm
        clear hdep ho hI hL
        try simp only [fill, slotOf, List.size_toArray, List.length_cons, List.length_nil, Nat.reduceAdd, List.getElem?_toArray, List.getElem?_cons_zero, List.getElem?_cons_succ, Option.bind_some, Act.put, List.setIfInBounds_toArray, List.set_cons_zero, List.set_cons_succ] at hK ⊢
        go_simp
        exact hK (.pointer (some ⟨w.heap.size, 5, none⟩)) _ (HI9.out.put 8 _ (by decide) (fun v h => Option.some.inj h)) _ rfl
      · obtain rfl := Option.some.inj ho.symm
        have d8 : V 8 = .pointer (some ⟨w.heap.size, 5, none⟩) := hI.val 8 _ (hdep ⟨8, .data⟩ (by simp) rfl) rfl
        have u5 : w9.cell? ⟨w.heap.size, 5, none⟩ = some (.int .i64 (n5 : Int)) := cell_blk9 (hI.gb.other _ _ _ HXB.out (by decide)) rfl
        clear hdep ho hI hL
        try simp only [fill, slotOf, List.size_toArray, List.length_cons, List.length_nil, Nat.reduceAdd, List.getElem?_toArray, List.getElem?_cons_zero, List.getElem?_cons_succ, Option.bind_some, Act.put, List.setIfInBounds_toArray, List.set_cons_zero, List.set_cons_succ] at hK ⊢
        rw [d8] at hK ⊢
        go_simp
        exact hK (.int .i64 (n5 : Int)) _ (HI9.out.put 9 _ (by decide) (fun v h => Option.some.inj h)) _ rfl
      · obtain rfl := Option.some.inj ho.symm
        clear hdep ho hI hL
        try simp only [fill, slotOf, List.size_toArray, List.length_cons, List.length_nil, Nat.reduceAdd, List.getElem?_toArray, List.getElem?_cons_zero, List.getElem?_cons_succ, Option.bind_some, Act.put, List.setIfInBounds_toArray, List.set_cons_zero, List.set_cons_succ] at hK ⊢
        go_simp
        exact hK (.pointer (some ⟨w.heap.size, 6, none⟩)) _ (HI9.out.put 10 _ (by decide) (fun v h => Option.some.inj h)) _ rfl
      · obtain rfl := Option.some.inj ho.symm
        have d10 : V 10 = .pointer (some ⟨w.heap.size, 6, none⟩) := hI.val 10 _ (hdep ⟨10, .data⟩ (by simp) rfl) rfl
        have u6 : w9.cell? ⟨w.heap.size, 6, none⟩ = some (.int .i64 (n6 : Int)) := cell_blk9 (hI.gb.other _ _ _ HXB.out (by decide)) rfl
        clear hdep ho hI hL
        try simp only [fill, slotOf, List.size_toArray, List.length_cons, List.length_nil, Nat.reduceAdd, List.getElem?_toArray, List.getElem?_cons_zero, List.getElem?_cons_succ, Option.bind_some, Act.put, List.setIfInBounds_toArray, List.set_cons_zero, List.set_cons_succ] at hK ⊢
        rw [d10] at hK ⊢
        go_simp
        exact hK (.int .i64 (n6 : Int)) _ (HI9.out.put 11 _ (by decide) (fun v h => Option.some.inj h)) _ rfl
      · obtain rfl := Option.some.inj ho.symm
        clear hdep ho hI hL
        try simp only [fill, slotOf, List.size_toArray, List.length_cons, List.length_nil, Nat.reduceAdd, List.getElem?_toArray, List.getElem?_cons_zero, List.getElem?_cons_succ, Option.bind_some, Act.put, List.setIfInBounds_toArray, List.set_cons_zero, List.set_cons_succ] at hK ⊢
        go_simp
        exact hK (.pointer (some ⟨w.heap.size, 7, none⟩)) _ (HI9.out.put 12 _ (by decide) (fun v h => Option.some.inj h)) _ rfl
      · obtain rfl := Option.some.inj ho.symm
        have d12 : V 12 = .pointer (some ⟨w.heap.size, 7, none⟩) := hI.val 12 _ (hdep ⟨12, .data⟩ (by simp) rfl) rfl
        have u7 : w9.cell? ⟨w.heap.size, 7, none⟩ = some (.int .u32 (n7 : Int)) := cell_blk9 (hI.gb.other _ _ _ HXB.out (by decide)) rfl
        clear hdep ho hI hL
        try simp only [fill, slotOf, List.size_toArray, List.length_cons, List.length_nil, Nat.reduceAdd, List.getElem?_toArray, List.getElem?_cons_zero, List.getElem?_cons_succ, Option.bind_some, Act.put, List.setIfInBounds_toArray, List.set_cons_zero, List.set_cons_succ] at hK ⊢
        rw [d12] at hK ⊢
        go_simp
        exact hK (.int .u32 (n7 : Int)) _ (HI9.out.put 13 _ (by decide) (fun v h => Option.some.inj h)) _ rfl
      · obtain rfl := Option.some.inj ho.symm
        have d13 : V 13 = .int .u32 (n7 : Int) := hI.val 13 _ (hdep ⟨13, .data⟩ (by simp) rfl) rfl
        have hw7 : IntKind.i64.wrap ((n7 : Nat) : Int) = (n7 : Int) := IntWalk.i64_in _ (by omega)
        clear hdep ho hI hL
        try simp only [fill, slotOf, List.size_toArray, List.length_cons, List.length_nil, Nat.reduceAdd, List.getElem?_toArray, List.getElem?_cons_zero, List.getElem?_cons_succ, Option.bind_some, Act.put, List.setIfInBounds_toArray, List.set_cons_zero, List.set_cons_succ] at hK ⊢
        rw [d13] at hK ⊢
        go_simp
        exact hK (.int .i64 (n7 : Int)) _ (HI9.out.put 14 _ (by decide) (fun v h => Option.some.inj h)) _ rfl
      · obtain rfl := Option.some.inj ho.symm
        clear hdep ho hI hL
        try simp only [fill, slotOf, List.size_toArray, List.length_cons, List.length_nil, Nat.reduceAdd, List.getElem?_toArray, List.getElem?_cons_zero, List.getElem?_cons_succ, Option.bind_some, Act.put, List.setIfInBounds_toArray, List.set_cons_zero, List.set_cons_succ] at hK ⊢
        go_simp
        exact hK (.pointer (some ⟨w.heap.size, 8, none⟩)) _ (HI9.out.put 15 _ (by decide) (fun v h => Option.some.inj h)) _ rfl
      · obtain rfl := Option.some.inj ho.symm
        have d15 : V 15 = .pointer (some ⟨w.heap.size, 8, none⟩) := hI.val 15 _ (hdep ⟨15, .data⟩ (by simp) rfl) rfl
        have u8 : w9.cell? ⟨w.heap.size, 8, none⟩ = some (.int .i64 (n8 : Int)) := cell_blk9 (hI.gb.other _ _ _ HXB.out (by decide)) rfl
        clear hdep ho hI hL
        try simp only [fill, slotOf, List.size_toArray, List.length_cons, List.length_nil, Nat.reduceAdd, List.getElem?_toArray, List.getElem?_cons_zero, List.getElem?_cons_succ, Option.bind_some, Act.put, List.setIfInBounds_toArray, List.set_cons_zero, List.set_cons_succ] at hK ⊢
        rw [d15] at hK ⊢
        go_simp
        exact hK (.int .i64 (n8 : Int)) _ (HI9.out.put 16 _ (by decide) (fun v h => Option.some.inj h)) _ rfl
      · obtain rfl := Option.some.inj ho.symm
        have d5 : V 5 = .int .i64 (n3 : Int) := hI.val 5 _ (hdep ⟨5, .data⟩ (by simp) rfl) rfl
        have d7 : V 7 = .int .i64 (n4 : Int) := hI.val 7 _ (hdep ⟨7, .data⟩ (by simp) rfl) rfl
        have d9 : V 9 = .int .i64 (n5 : Int) := hI.val 9 _ (hdep ⟨9, .data⟩ (by simp) rfl) rfl
        have d11 : V 11 = .int .i64 (n6 : Int) := hI.val 11 _ (hdep ⟨11, .data⟩ (by simp) rfl) rfl
        have d14 : V 14 = .int .i64 (n7 : Int) := hI.val 14 _ (hdep ⟨14, .data⟩ (by simp) rfl) rfl
        have d16 : V 16 = .int .i64 (n8 : Int) := hI.val 16 _ (hdep ⟨16, .data⟩ (by simp) rfl) rfl
        clear hdep ho hI hL
        try simp only [fill, slotOf, List.size_toArray, List.length_cons, List.length_nil, Nat.reduceAdd, List.getElem?_toArray, List.getElem?_cons_zero, List.getElem?_cons_succ, Option.bind_some, Act.put, List.setIfInBounds_toArray, List.set_cons_zero, List.set_cons_succ] at hK ⊢
        rw [d5, d7, d9, d11, d14, d16] at hK ⊢
        go_simp
        exact hK (.slice (some ⟨w9.heap.size, 0, none⟩) 6 6) _ (HI9.out.putl HBW.out (by decide) rfl) _ rfl
      · obtain rfl := Option.some.inj ho.symm
        have HLA := Lib.hid (hdep ⟨3, .data⟩ (by simp) rfl : L9 3 = true)
        obtain ⟨g9, e9, hg9⟩ := hI.lit (hdep ⟨17, .data⟩ (by simp) rfl)
        have HG9 := Lib.hid hg9
        clear hg9
        clear hdep ho hI hL
        try simp only [fill, slotOf, List.size_toArray, List.length_cons, List.length_nil, Nat.reduceAdd, List.getElem?_toArray, List.getElem?_cons_zero, List.getElem?_cons_succ, Option.bind_some, Act.put, List.setIfInBounds_toArray, List.set_cons_zero, List.set_cons_succ] at hK ⊢
        rw [e9] at hK ⊢
        go_simp
        refine (HC4.out w9 _ g9 (HI9.out.o1 HLA.out HL9.out) HBW.out HG9.out).mono ?_
        rintro e w8 ⟨u8, rfl, ho8, hg8⟩
        exact hK u8 _ (HI9.out.put2 HLA.out HL9.out u8 (by decide) rfl ho8 hg8) _ rfl
      · obtain rfl := Option.some.inj ho.symm
        have HLA := Lib.hid (hdep ⟨18, .data⟩ (by simp) rfl : L9 18 = true)
        clear hdep ho hI hL
        try simp only [fill, slotOf, List.size_toArray, List.length_cons, List.length_nil, Nat.reduceAdd, List.getElem?_toArray, List.getElem?_cons_zero, List.getElem?_cons_succ, Option.bind_some, Act.put, List.setIfInBounds_toArray, List.set_cons_zero, List.set_cons_succ] at hK ⊢
        go_simp
        exact hK (V 18) _ (HI9.out.put3 HLA.out (by decide) rfl) _ rfl
    · intro L9 V w9 hI hall
      have k3 : V 19 = V 18 := (hI.ag (hall 19 (by decide))).2
      have HOZb := hI.o2 (hall 18 (by decide))
      have HGZb := Lib.hid hI.gb
      obtain ⟨az2, cz2, kz⟩ := own_slice HOZb
      rw [kz] at HOZb k3
      have HOZb := Lib.hid HOZb
      clear hI hall
      simp only [fill, slotOf, List.size_toArray, List.length_cons, List.length_nil, Nat.reduceAdd, List.getElem?_toArray, List.getElem?_cons_zero, List.getElem?_cons_succ, Option.bind_some, Act.put, List.setIfInBounds_toArray, List.set_cons_zero, List.set_cons_succ]
      rw [k3]
      clear k3 kz
      go_wp2_with fail
      go_ret
      exact ⟨_, rfl, by rw [← HE.out.1, ← HE.out.2]; exact HOZb.out, (HGA.out.trans HGZ.out).trans HGZb.out⟩
theorem enc1_any {w : World} {base n : Nat} {v : Value} {xs : List Nat} (ho : w.ownsRow base 5 1 v n (bv xs)) (hbs : base ≤ w.heap.size) (hn : n ≤ 80000000) (x0 : ByteArray) (x1 : Int) (x2 : ByteArray) (x3 x4 x5 x6 x7 x8 : Int) (h : EntNat ⟨x0, x1, x2, x3, x4, x5, x6, x7, x8⟩) :
    Calls Tryz.prog 23 #[v, .agg #[.string x0, .int .i64 x1, .string x2, .int .i64 x3, .int .i64 x4, .int .i64 x5, .int .i64 x6, .int .u32 x7, .int .i64 x8]] w fun e w' => ∃ v', e = .returned v' ∧ w'.ownsRow base 5 1 v' (n + (entC ⟨x0, x1, x2, x3, x4, x5, x6, x7, x8⟩).length) (bv (xs ++ entC ⟨x0, x1, x2, x3, x4, x5, x6, x7, x8⟩)) ∧ Gb base w w' := by
  obtain ⟨h0, h2, h1, h3, h4, h5, h6, h7, h8⟩ := h
  obtain ⟨n1, e1, b1⟩ := h1.nat
  obtain ⟨n3, e3, b3⟩ := h3.nat
  obtain ⟨n4, e4, b4⟩ := h4.nat
  obtain ⟨n5, e5, b5⟩ := h5.nat
  obtain ⟨n6, e6, b6⟩ := h6.nat
  obtain ⟨n7, e7, b7⟩ := h7.nat
  obtain ⟨n8, e8, b8⟩ := h8.nat
  have e1' : x1 = (n1 : Int) := e1
  have e3' : x3 = (n3 : Int) := e3
  have e4' : x4 = (n4 : Int) := e4
  have e5' : x5 = (n5 : Int) := e5
  have e6' : x6 = (n6 : Int) := e6
  have e7' : x7 = (n7 : Int) := e7
  have e8' : x8 = (n8 : Int) := e8
  subst e1' e3' e4' e5' e6' e7' e8'
  exact enc1_nat ho hbs hn x0 n1 x2 n3 n4 n5 n6 n7 n8 h0 b1 h2 b3 b4 b5 b6 b7 b8


set_option maxRecDepth 100000 in
set_option maxHeartbeats 2000000 in
theorem enc2_any {w : World} {base n : Nat} {v : Value} {xs : List Nat} (ho : w.ownsRow base 5 1 v n (bv xs)) (hbs : base ≤ w.heap.size) (hn : n ≤ 80000000) (x0 x1 : Int) (h : MarkNat (x0, x1)) :
    Calls Tryz.prog 26 #[v, .agg #[.int .i64 x0, .int .i64 x1]] w fun e w' => ∃ v', e = .returned v' ∧ w'.ownsRow base 5 1 v' (n + (markC (x0, x1)).length) (bv (xs ++ markC (x0, x1))) ∧ Gb base w w' := by
  obtain ⟨h0, h1⟩ := h
  obtain ⟨n0, e0, b0⟩ := h0.nat
  have e0' : x0 = (n0 : Int) := e0
  subst e0'
  obtain ⟨n1, e1, b1⟩ := h1.nat
  have e1' : x1 = (n1 : Int) := e1
  subst e1'
  obtain ⟨a, c, rfl⟩ := own_slice ho
  have es : (w.alloc (.cells #[.int .i64 (n0 : Int), .int .i64 (n1 : Int)] 43)).heap.size = w.heap.size + 1 := Array.size_push _
  have hN := mnums_lit (w := w.alloc (.cells #[.int .i64 (n0 : Int), .int .i64 (n1 : Int)] 43)) (.inl (ho.alloc _)) (Nat.le_trans hbs (Gb.alloc w _ hbs).size) (by omega) [n0, n1] #[.int .i64 (n0 : Int), .int .i64 (n1 : Int)] 2 rfl rfl (fun z hz => by simp at hz; omega) (by decide) (by decide)
  rw [es] at hN
  have HN := Lib.hid hN
  have HGA := Lib.hid (Gb.alloc w (.cells #[.int .i64 (n0 : Int), .int .i64 (n1 : Int)] 43) hbs)
  have HE := Lib.hid (show markC ((n0 : Int), (n1 : Int)) = nI [n0, n1] from rfl)
  clear ho hbs hN es
  go_enter Tryz.func26, Tryz.ntmps26
  go_wp2_with fail
  refine HN.out.mono ?_
  rintro e w1 ⟨v1, rfl, ho1, hg1⟩
  have HO1 := Lib.hid ho1
  have HG1 := Lib.hid (HGA.out.trans hg1)
  clear ho1 hg1
  go_wp2_with fail
  go_ret
  exact ⟨_, rfl, by rw [HE.out]; exact HO1.out, HG1.out⟩

set_option maxRecDepth 100000 in
set_option maxHeartbeats 2000000 in
theorem enc3_any {w : World} {base n : Nat} {v : Value} {xs : List Nat} (ho : w.ownsRow base 5 1 v n (bv xs)) (hbs : base ≤ w.heap.size) (hn : n ≤ 80000000) (x0 x1 x2 : Int) (h : OwnNat (x0, x1, x2)) :
    Calls Tryz.prog 28 #[v, .agg #[.int .i64 x0, .int .i64 x1, .int .i64 x2]] w fun e w' => ∃ v', e = .returned v' ∧ w'.ownsRow base 5 1 v' (n + (ownC (x0, x1, x2)).length) (bv (xs ++ ownC (x0, x1, x2))) ∧ Gb base w w' := by
  obtain ⟨h0, h1, h2⟩ := h
  obtain ⟨n0, e0, b0⟩ := h0.nat
  have e0' : x0 = (n0 : Int) := e0
  subst e0'
  obtain ⟨n1, e1, b1⟩ := h1.nat
  have e1' : x1 = (n1 : Int) := e1
  subst e1'
  obtain ⟨n2, e2, b2⟩ := h2.nat
  have e2' : x2 = (n2 : Int) := e2
  subst e2'
  obtain ⟨a, c, rfl⟩ := own_slice ho
  have es : (w.alloc (.cells #[.int .i64 (n0 : Int), .int .i64 (n1 : Int), .int .i64 (n2 : Int)] 45)).heap.size = w.heap.size + 1 := Array.size_push _
  have hN := mnums_lit (w := w.alloc (.cells #[.int .i64 (n0 : Int), .int .i64 (n1 : Int), .int .i64 (n2 : Int)] 45)) (.inl (ho.alloc _)) (Nat.le_trans hbs (Gb.alloc w _ hbs).size) (by omega) [n0, n1, n2] #[.int .i64 (n0 : Int), .int .i64 (n1 : Int), .int .i64 (n2 : Int)] 3 rfl rfl (fun z hz => by simp at hz; omega) (by decide) (by decide)
  rw [es] at hN
  have HN := Lib.hid hN
  have HGA := Lib.hid (Gb.alloc w (.cells #[.int .i64 (n0 : Int), .int .i64 (n1 : Int), .int .i64 (n2 : Int)] 45) hbs)
  have HE := Lib.hid (show ownC ((n0 : Int), (n1 : Int), (n2 : Int)) = nI [n0, n1, n2] from rfl)
  clear ho hbs hN es
  go_enter Tryz.func28, Tryz.ntmps28
  go_wp2_with fail
  refine HN.out.mono ?_
  rintro e w1 ⟨v1, rfl, ho1, hg1⟩
  have HO1 := Lib.hid ho1
  have HG1 := Lib.hid (HGA.out.trans hg1)
  clear ho1 hg1
  go_wp2_with fail
  go_ret
  exact ⟨_, rfl, by rw [HE.out]; exact HO1.out, HG1.out⟩

end Go.Proofs.YtbdgcfimbblncaaGreatDoor
end PkMB3_2
section PkMB3_3
/- Manifests: reading entries, marks and owners by a cursor. Written by genmfd1.py. -/
namespace Go.Proofs.YtbdgcfimbblncaaGreatDoor
open Go.RowKit NumsPlain LabPlain
set_option linter.unusedVariables false

/-- a number up to m, a text of up to m bytes, read at a place (with an error, or none); the place behind -/
def rN (xs : List Nat) (m : Int) (s : Nat × Nat) : Nat := (ccn xs s.1 s.2 m 2).1
def sN (xs : List Nat) (m : Int) (s : Nat × Nat) : Nat × Nat := (ccn xs s.1 s.2 m 2).2
def rT (xs : List Nat) (m : Int) (s : Nat × Nat) : List Nat := (ct xs s.1 s.2 m).1
def sT (xs : List Nat) (m : Int) (s : Nat × Nat) : Nat × Nat := (ct xs s.1 s.2 m).2
def mkV (xs : List Nat) (m1 m2 : Int) (s : Nat × Nat) : Int × Int := ((rN xs m1 s : Int), (rN xs m2 (sN xs m1 s) : Int))
def mkS (xs : List Nat) (m1 m2 : Int) (s : Nat × Nat) : Nat × Nat := sN xs m2 (sN xs m1 s)
def owV (xs : List Nat) (m1 m2 : Int) (s : Nat × Nat) : Int × Int × Int := ((rN xs m1 s : Int), (rN xs m2 (sN xs m1 s) : Int), (rN xs m2 (sN xs m2 (sN xs m1 s)) : Int))
def owS (xs : List Nat) (m1 m2 : Int) (s : Nat × Nat) : Nat × Nat := sN xs m2 (sN xs m2 (sN xs m1 s))
def en3 (xs : List Nat) (mw : Int) (s : Nat × Nat) : Nat × Nat := sT xs 1024 (sN xs mw (sT xs 40 s))
def en5 (xs : List Nat) (mw : Int) (s : Nat × Nat) : Nat × Nat := sN xs mw (sN xs mw (en3 xs mw s))
def en7 (xs : List Nat) (mw mr mz : Int) (s : Nat × Nat) : Nat × Nat := sN xs mz (sN xs mr (en5 xs mw s))
def enV (xs : List Nat) (mw mr mz : Int) (s : Nat × Nat) : EntV := ⟨bs (rT xs 40 s), (rN xs mw (sT xs 40 s) : Int), bs (rT xs 1024 (sN xs mw (sT xs 40 s))), (rN xs mw (en3 xs mw s) : Int), (rN xs mw (sN xs mw (en3 xs mw s)) : Int), (rN xs mr (en5 xs mw s) : Int), (rN xs mz (sN xs mr (en5 xs mw s)) : Int), (rN xs 4294967295 (en7 xs mw mr mz s) : Int), (rN xs mw (sN xs 4294967295 (en7 xs mw mr mz s)) : Int)⟩
def enS (xs : List Nat) (mw mr mz : Int) (s : Nat × Nat) : Nat × Nat := sN xs mw (sN xs 4294967295 (en7 xs mw mr mz s))
theorem ccn_le {xs : List Nat} {i e : Nat} {m : Int} {a : Nat} (hm : 0 ≤ m) : ((ccn xs i e m a).1 : Int) ≤ m := by
  unfold ccn
  split
  · exact hm
  · split
    · exact hm
    · split
      · exact hm
      · omega
theorem gr_set {w w1 : World} {r : Option Nat} (h : w.grownBy w1 r) {X i : Nat} (hX : w.heap.size ≤ X) (u : Value) : w.grownBy (w1.setCell ⟨X, i, none⟩ u) r :=
  ⟨h.os, h.tape, h.output, by simpa using h.size, fun k hk hn => (Below.heap_setCell w1 ⟨X, i, none⟩ u k (by show k ≠ X; omega)).trans (h.block k hk hn)⟩
theorem gr_then {w w1 w2 : World} {B : Nat} {r : Option Nat} (h : w.grownBy w1 (some B)) (k : w1.grownBy w2 r) (hr : ∀ x, r = some x → x = B ∨ w.heap.size ≤ x) : w.grownBy w2 (some B) :=
  ⟨k.os.trans h.os, k.tape.trans h.tape, k.output.trans h.output, Nat.le_trans h.size k.size, fun i hi hn => by
    refine (k.block i (Nat.lt_of_lt_of_le hi h.size) (fun e => ?_)).trans (h.block i hi hn)
    rcases hr i e.symm with q | q
    · subst q; exact hn rfl
    · omega⟩
theorem gr_below {w w1 w2 : World} {r : Option Nat} (h : w.grownBy w1 r) (k : Below w1.heap.size w1 w2) : w.grownBy w2 r :=
  ⟨k.os.trans h.os, k.tape.trans h.tape, k.output.trans h.output, Nat.le_trans h.size k.size, fun i hi hn => (k.block i (Nat.lt_of_lt_of_le hi h.size)).trans (h.block i hi hn)⟩
theorem gr_ofBelow {w w1 : World} {r : Option Nat} (k : Below w.heap.size w w1) : w.grownBy w1 r := ⟨k.os, k.tape, k.output, k.size, fun i hi _ => k.block i hi⟩
/-- what a cursor stands on lies below N -/
def CurLow (N : Nat) (a : Option Addr) (n B : Nat) : Prop := B < N ∧ ∀ b off s, 0 < n → a = some ⟨b, off, s⟩ → b < N
theorem CurAt.lo {T : TypeId} {w : World} {B : Nat} {a : Option Addr} {n c : Nat} {xs : List Nat} {i e : Nat} (h : CurAt T w B a n c xs i e) : CurLow w.heap.size a n B :=
  ⟨h.lt, fun b off s hn ha => by
    obtain ⟨b2, off2, e2, hlt, _⟩ := h.src.cells hn
    rw [e2] at ha
    cases ha
    exact hlt⟩
theorem CurAt.low {T : TypeId} {w w' : World} {B N : Nat} {a : Option Addr} {n c : Nat} {xs : List Nat} {i e : Nat} (h : CurAt T w B a n c xs i e) (hl : CurLow N a n B) (hk : ∀ k, k < N → w'.heap[k]? = w.heap[k]?) (hs : w.heap.size ≤ w'.heap.size) : CurAt T w' B a n c xs i e :=
  ⟨(hk B hl.1).trans h.blk, ⟨h.src.len, h.src.cap, h.src.byte, h.src.reach, h.src.capm, h.src.nl, fun hn => by
    obtain ⟨b, off, ha, hlt, hc⟩ := h.src.cells hn
    have hb : w'.heap[b]? = w.heap[b]? := hk b (hl.2 b off none hn ha)
    exact ⟨b, off, ha, Nat.lt_of_lt_of_le hlt hs, fun i hi => (World.cell?_of_block (w := w) (a := ⟨b, _, none⟩) hb).trans (hc i hi)⟩⟩, h.apart, h.le⟩
theorem CurAt.set {T : TypeId} {w : World} {B N X j : Nat} {a : Option Addr} {n c : Nat} {xs : List Nat} {i e : Nat} (h : CurAt T w B a n c xs i e) (hl : CurLow N a n B) (hX : N ≤ X) (u : Value) : CurAt T (w.setCell ⟨X, j, none⟩ u) B a n c xs i e :=
  h.low hl (fun k hk => Below.heap_setCell w ⟨X, j, none⟩ u k (by show k ≠ X; omega)) (by simp)

set_option maxRecDepth 100000 in
set_option maxHeartbeats 2000000 in
theorem dmk_any {w : World} {B : Nat} {a : Option Addr} {n c : Nat} {xs : List Nat} {i e : Nat} (h : CurAt 123 w B a n c xs i e) :
    Calls Tryz.prog 54 #[.pointer (some ⟨B, 0, none⟩)] w fun r w' => r = .returned (.agg #[.int .i64 (mkV xs 64 1099511627776 (i, e)).1, .int .i64 (mkV xs 64 1099511627776 (i, e)).2]) ∧ CurAt 123 w' B a n c xs (mkS xs 64 1099511627776 (i, e)).1 (mkS xs 64 1099511627776 (i, e)).2 ∧ w.grownBy w' (some B) := by
  have hlo := h.lo
  obtain ⟨wa, hwa⟩ : ∃ wa, wa = w.alloc (.cells #[.int .i64 0, .int .i64 0] 43) := ⟨_, rfl⟩
  have ba : Below w.heap.size w wa := by rw [hwa]; exact (Below.refl _ _).alloc (Nat.le_refl _) _
  have ga : wa.heap[w.heap.size]? = some (.cells #[.int .i64 0, .int .i64 0] 43 (0, 0)) := by rw [hwa]; exact heap_alloc_new _ _
  have hc0 := h.keptB ba
  obtain ⟨t0, ht0⟩ : ∃ t, t = ccn xs i e 64 2 := ⟨_, rfl⟩
  obtain ⟨t1, ht1⟩ : ∃ t, t = ccn xs t0.2.1 t0.2.2 1099511627776 2 := ⟨_, rfl⟩
  have HV := Lib.hid (show mkV xs 64 1099511627776 (i, e) = ((t0.1 : Int), (t1.1 : Int)) ∧ mkS xs 64 1099511627776 (i, e) = t1.2 from by rw [ht1, ht0]; exact ⟨rfl, rfl⟩)
  have hN0 := cnum_any hc0 64 (by decide) (by decide)
  rw [← ht0] at hN0
  have HN0 := Lib.hid hN0
  have HLO := Lib.hid hlo
  have HGA := Lib.hid ga
  have HBA := Lib.hid ba
  have HWA := Lib.hid hwa
  have HT1 := Lib.hid ht1
  clear h hlo hwa ba ga hc0 hN0 ht0 ht1
  go_enter Tryz.func54, Tryz.ntmps54
  go_wp2_with fail
  rw [← HWA.out]
  refine HN0.out.mono ?_
  rintro r w0 ⟨rfl, hc0, hg0⟩
  have HC0 := Lib.hid hc0
  have HG0 := Lib.hid (gr_then (gr_ofBelow HBA.out) hg0 (fun x hx => .inl (by cases hx; rfl)))
  have HB0 := Lib.hid ((hg0.block w.heap.size (Array.getElem?_eq_some_iff.1 HGA.out).1 (by intro e9; cases e9; exact absurd HLO.out.1 (Nat.lt_irrefl _))).trans HGA.out)
  have hN1 := cnum_any hc0 1099511627776 (by decide) (by decide)
  rw [← HT1.out] at hN1
  have HN1 := Lib.hid hN1
  clear hc0 hg0 hN1
  go_wp2_with fail
  refine HN1.out.mono ?_
  rintro r w1 ⟨rfl, hc1, hg1⟩
  have HC1 := Lib.hid hc1
  have HG1 := Lib.hid (gr_then HG0.out hg1 (fun x hx => .inl (by cases hx; rfl)))
  have HB1 := Lib.hid ((hg1.block w.heap.size (Array.getElem?_eq_some_iff.1 HB0.out).1 (by intro e9; cases e9; exact absurd HLO.out.1 (Nat.lt_irrefl _))).trans HB0.out)
  clear hc1 hg1
  have x0 : w1.cell? ⟨w.heap.size, 0, none⟩ = some (.int .i64 0) := cell_blk HB1.out rfl
  have y0 : w1.frozen? ⟨w.heap.size, 0, none⟩ = false := fro_blk HB1.out 0
  have x1 : w1.cell? ⟨w.heap.size, 1, none⟩ = some (.int .i64 0) := cell_blk HB1.out rfl
  have y1 : w1.frozen? ⟨w.heap.size, 1, none⟩ = false := fro_blk HB1.out 1
  go_wp2_with fail
  have hr9 := setM HB1.out (t0.1 : Int) (t1.1 : Int)
  refine bodyPost_ret (v := .agg #[.int .i64 (t0.1 : Int), .int .i64 (t1.1 : Int)]) (by simp [results, Tryz.results54, go_sem, cell_blk hr9 (i := 0) rfl, cell_blk hr9 (i := 1) rfl]) rfl ?_
  rw [HV.out.1, HV.out.2]
  exact ⟨rfl, ((HC1.out.set HLO.out (Nat.le_refl _) _).set HLO.out (Nat.le_refl _) _), (gr_set (gr_set HG1.out (Nat.le_refl _) _) (Nat.le_refl _) _)⟩


set_option maxRecDepth 100000 in
set_option maxHeartbeats 2000000 in
theorem dow_any {w : World} {B : Nat} {a : Option Addr} {n c : Nat} {xs : List Nat} {i e : Nat} (h : CurAt 123 w B a n c xs i e) :
    Calls Tryz.prog 56 #[.pointer (some ⟨B, 0, none⟩)] w fun r w' => r = .returned (.agg #[.int .i64 (owV xs 8 1099511627776 (i, e)).1, .int .i64 (owV xs 8 1099511627776 (i, e)).2.1, .int .i64 (owV xs 8 1099511627776 (i, e)).2.2]) ∧ CurAt 123 w' B a n c xs (owS xs 8 1099511627776 (i, e)).1 (owS xs 8 1099511627776 (i, e)).2 ∧ w.grownBy w' (some B) := by
  have hlo := h.lo
  obtain ⟨wa, hwa⟩ : ∃ wa, wa = w.alloc (.cells #[.int .i64 0, .int .i64 0, .int .i64 0] 45) := ⟨_, rfl⟩
  have ba : Below w.heap.size w wa := by rw [hwa]; exact (Below.refl _ _).alloc (Nat.le_refl _) _
  have ga : wa.heap[w.heap.size]? = some (.cells #[.int .i64 0, .int .i64 0, .int .i64 0] 45 (0, 0)) := by rw [hwa]; exact heap_alloc_new _ _
  have hc0 := h.keptB ba
  obtain ⟨t0, ht0⟩ : ∃ t, t = ccn xs i e 8 2 := ⟨_, rfl⟩
  obtain ⟨t1, ht1⟩ : ∃ t, t = ccn xs t0.2.1 t0.2.2 1099511627776 2 := ⟨_, rfl⟩
  obtain ⟨t2, ht2⟩ : ∃ t, t = ccn xs t1.2.1 t1.2.2 1099511627776 2 := ⟨_, rfl⟩
  have HV := Lib.hid (show owV xs 8 1099511627776 (i, e) = ((t0.1 : Int), (t1.1 : Int), (t2.1 : Int)) ∧ owS xs 8 1099511627776 (i, e) = t2.2 from by rw [ht2, ht1, ht0]; exact ⟨rfl, rfl⟩)
  have hN0 := cnum_any hc0 8 (by decide) (by decide)
  rw [← ht0] at hN0
  have HN0 := Lib.hid hN0
  have HLO := Lib.hid hlo
  have HGA := Lib.hid ga
  have HBA := Lib.hid ba
  have HWA := Lib.hid hwa
  have HT1 := Lib.hid ht1
  have HT2 := Lib.hid ht2
  clear h hlo hwa ba ga hc0 hN0 ht0 ht1 ht2
  go_enter Tryz.func56, Tryz.ntmps56
  go_wp2_with fail
  rw [← HWA.out]
  refine HN0.out.mono ?_
  rintro r w0 ⟨rfl, hc0, hg0⟩
  have HC0 := Lib.hid hc0
  have HG0 := Lib.hid (gr_then (gr_ofBelow HBA.out) hg0 (fun x hx => .inl (by cases hx; rfl)))
  have HB0 := Lib.hid ((hg0.block w.heap.size (Array.getElem?_eq_some_iff.1 HGA.out).1 (by intro e9; cases e9; exact absurd HLO.out.1 (Nat.lt_irrefl _))).trans HGA.out)
  have hN1 := cnum_any hc0 1099511627776 (by decide) (by decide)
  rw [← HT1.out] at hN1
  have HN1 := Lib.hid hN1
  clear hc0 hg0 hN1
  go_wp2_with fail
  refine HN1.out.mono ?_
  rintro r w1 ⟨rfl, hc1, hg1⟩
  have HC1 := Lib.hid hc1
  have HG1 := Lib.hid (gr_then HG0.out hg1 (fun x hx => .inl (by cases hx; rfl)))
  have HB1 := Lib.hid ((hg1.block w.heap.size (Array.getElem?_eq_some_iff.1 HB0.out).1 (by intro e9; cases e9; exact absurd HLO.out.1 (Nat.lt_irrefl _))).trans HB0.out)
  have hN2 := cnum_any hc1 1099511627776 (by decide) (by decide)
  rw [← HT2.out] at hN2
  have HN2 := Lib.hid hN2
  clear hc1 hg1 hN2
  go_wp2_with fail
  refine HN2.out.mono ?_
  rintro r w2 ⟨rfl, hc2, hg2⟩
  have HC2 := Lib.hid hc2
  have HG2 := Lib.hid (gr_then HG1.out hg2 (fun x hx => .inl (by cases hx; rfl)))
  have HB2 := Lib.hid ((hg2.block w.heap.size (Array.getElem?_eq_some_iff.1 HB1.out).1 (by intro e9; cases e9; exact absurd HLO.out.1 (Nat.lt_irrefl _))).trans HB1.out)
  clear hc2 hg2
  have x0 : w2.cell? ⟨w.heap.size, 0, none⟩ = some (.int .i64 0) := cell_blk HB2.out rfl
  have y0 : w2.frozen? ⟨w.heap.size, 0, none⟩ = false := fro_blk HB2.out 0
  have x1 : w2.cell? ⟨w.heap.size, 1, none⟩ = some (.int .i64 0) := cell_blk HB2.out rfl
  have y1 : w2.frozen? ⟨w.heap.size, 1, none⟩ = false := fro_blk HB2.out 1
  have x2 : w2.cell? ⟨w.heap.size, 2, none⟩ = some (.int .i64 0) := cell_blk HB2.out rfl
  have y2 : w2.frozen? ⟨w.heap.size, 2, none⟩ = false := fro_blk HB2.out 2
  go_wp2_with fail
  have hr9 := setO HB2.out (t0.1 : Int) (t1.1 : Int) (t2.1 : Int)
  refine bodyPost_ret (v := .agg #[.int .i64 (t0.1 : Int), .int .i64 (t1.1 : Int), .int .i64 (t2.1 : Int)]) (by simp [results, Tryz.results56, go_sem, cell_blk hr9 (i := 0) rfl, cell_blk hr9 (i := 1) rfl, cell_blk hr9 (i := 2) rfl]) rfl ?_
  rw [HV.out.1, HV.out.2]
  exact ⟨rfl, (((HC2.out.set HLO.out (Nat.le_refl _) _).set HLO.out (Nat.le_refl _) _).set HLO.out (Nat.le_refl _) _), (gr_set (gr_set (gr_set HG2.out (Nat.le_refl _) _) (Nat.le_refl _) _) (Nat.le_refl _) _)⟩


set_option maxRecDepth 100000 in
set_option maxHeartbeats 8000000 in
theorem entry_any {w : World} {B : Nat} {a : Option Addr} {n c : Nat} {xs : List Nat} {i e : Nat} (h : CurAt 123 w B a n c xs i e) :
    Calls Tryz.prog 52 #[.pointer (some ⟨B, 0, none⟩)] w fun r w' => r = .returned (.agg (EntV.cells (enV xs 1099511627776 2048 262144 (i, e))).toArray) ∧ CurAt 123 w' B a n c xs (enS xs 1099511627776 2048 262144 (i, e)).1 (enS xs 1099511627776 2048 262144 (i, e)).2 ∧ w.grownBy w' (some B) := by
  have hlo := h.lo
  obtain ⟨wa, hwa⟩ : ∃ wa, wa = w.alloc (.cells #[.string { data := #[] }, .int .i64 0, .string { data := #[] }, .int .i64 0, .int .i64 0, .int .i64 0, .int .i64 0, .int .u32 0, .int .i64 0] 53) := ⟨_, rfl⟩
  have ba : Below w.heap.size w wa := by rw [hwa]; exact (Below.refl _ _).alloc (Nat.le_refl _) _
  have ga : wa.heap[w.heap.size]? = some (.cells #[.string { data := #[] }, .int .i64 0, .string { data := #[] }, .int .i64 0, .int .i64 0, .int .i64 0, .int .i64 0, .int .u32 0, .int .i64 0] 53 (0, 0)) := by rw [hwa]; exact heap_alloc_new _ _
  have hc0 := h.keptB ba
  obtain ⟨t0, ht0⟩ : ∃ t, t = ct xs i e 40 := ⟨_, rfl⟩
  obtain ⟨t1, ht1⟩ : ∃ t, t = ccn xs t0.2.1 t0.2.2 1099511627776 2 := ⟨_, rfl⟩
  obtain ⟨t2, ht2⟩ : ∃ t, t = ct xs t1.2.1 t1.2.2 1024 := ⟨_, rfl⟩
  obtain ⟨t3, ht3⟩ : ∃ t, t = ccn xs t2.2.1 t2.2.2 1099511627776 2 := ⟨_, rfl⟩
  obtain ⟨t4, ht4⟩ : ∃ t, t = ccn xs t3.2.1 t3.2.2 1099511627776 2 := ⟨_, rfl⟩
  obtain ⟨t5, ht5⟩ : ∃ t, t = ccn xs t4.2.1 t4.2.2 2048 2 := ⟨_, rfl⟩
  obtain ⟨t6, ht6⟩ : ∃ t, t = ccn xs t5.2.1 t5.2.2 262144 2 := ⟨_, rfl⟩
  obtain ⟨t7, ht7⟩ : ∃ t, t = ccn xs t6.2.1 t6.2.2 4294967295 2 := ⟨_, rfl⟩
  obtain ⟨t8, ht8⟩ : ∃ t, t = ccn xs t7.2.1 t7.2.2 1099511627776 2 := ⟨_, rfl⟩
  have HV := Lib.hid (show enV xs 1099511627776 2048 262144 (i, e) = ⟨bs t0.1, (t1.1 : Int), bs t2.1, (t3.1 : Int), (t4.1 : Int), (t5.1 : Int), (t6.1 : Int), (t7.1 : Int), (t8.1 : Int)⟩ ∧ enS xs 1099511627776 2048 262144 (i, e) = t8.2 from by rw [ht8, ht7, ht6, ht5, ht4, ht3, ht2, ht1, ht0]; exact ⟨rfl, rfl⟩)
  have HU := Lib.hid (show (t7.1 : Int) ≤ 4294967295 from by rw [ht7]; exact ccn_le (by decide))
  have hN0 := ct_any hc0 40 (by decide) (by decide)
  rw [← ht0] at hN0
  have HN0 := Lib.hid hN0
  have HLO := Lib.hid hlo
  have HGA := Lib.hid ga
  have HBA := Lib.hid ba
  have HWA := Lib.hid hwa
  have HT1 := Lib.hid ht1
  have HT2 := Lib.hid ht2
  have HT3 := Lib.hid ht3
  have HT4 := Lib.hid ht4
  have HT5 := Lib.hid ht5
  have HT6 := Lib.hid ht6
  have HT7 := Lib.hid ht7
  have HT8 := Lib.hid ht8
  clear h hlo hwa ba ga hc0 hN0 ht0 ht1 ht2 ht3 ht4 ht5 ht6 ht7 ht8
  go_enter Tryz.func52, Tryz.ntmps52
  go_wp2_with fail
  rw [← HWA.out]
  refine HN0.out.mono ?_
  rintro r w0 ⟨rfl, hc0, hg0⟩
  have HC0 := Lib.hid hc0
  have HG0 := Lib.hid (gr_then (gr_ofBelow HBA.out) hg0 (fun x hx => .inl (by cases hx; rfl)))
  have HR0 := Lib.hid ((hg0.block w.heap.size (Array.getElem?_eq_some_iff.1 HGA.out).1 (by intro e9; cases e9; exact absurd HLO.out.1 (Nat.lt_irrefl _))).trans HGA.out)
  have hN1 := cnum_any hc0 1099511627776 (by decide) (by decide)
  rw [← HT1.out] at hN1
  have HN1 := Lib.hid hN1
  clear hc0 hg0 hN1
  go_wp2_with fail
  refine HN1.out.mono ?_
  rintro r w1 ⟨rfl, hc1, hg1⟩
  have HC1 := Lib.hid hc1
  have HG1 := Lib.hid (gr_then HG0.out hg1 (fun x hx => .inl (by cases hx; rfl)))
  have HR1 := Lib.hid ((hg1.block w.heap.size (Array.getElem?_eq_some_iff.1 HR0.out).1 (by intro e9; cases e9; exact absurd HLO.out.1 (Nat.lt_irrefl _))).trans HR0.out)
  have hN2 := ct_any hc1 1024 (by decide) (by decide)
  rw [← HT2.out] at hN2
  have HN2 := Lib.hid hN2
  clear hc1 hg1 hN2
  go_wp2_with fail
  refine HN2.out.mono ?_
  rintro r w2 ⟨rfl, hc2, hg2⟩
  have HC2 := Lib.hid hc2
  have HG2 := Lib.hid (gr_then HG1.out hg2 (fun x hx => .inl (by cases hx; rfl)))
  have HR2 := Lib.hid ((hg2.block w.heap.size (Array.getElem?_eq_some_iff.1 HR1.out).1 (by intro e9; cases e9; exact absurd HLO.out.1 (Nat.lt_irrefl _))).trans HR1.out)
  obtain ⟨X, hX⟩ : ∃ X, X = w2.heap.size := ⟨_, rfl⟩
  obtain ⟨wx, hwx⟩ : ∃ wx, wx = w2.alloc (.cells #[.string (bs t0.1), .int .i64 (t1.1 : Int), .string (bs t2.1), .int .i64 0, .int .i64 0, .int .i64 0, .int .i64 0, .int .u32 0, .int .i64 0] 53) := ⟨_, rfl⟩
  have bx : Below w2.heap.size w2 wx := by rw [hwx]; exact (Below.refl _ _).alloc (Nat.le_refl _) _
  have HXX := Lib.hid (show wx.heap[X]? = some (.cells #[.string (bs t0.1), .int .i64 (t1.1 : Int), .string (bs t2.1), .int .i64 0, .int .i64 0, .int .i64 0, .int .i64 0, .int .u32 0, .int .i64 0] 53 (0, 0)) from by rw [hwx, hX]; exact heap_alloc_new _ _)
  have HXL := Lib.hid (show w.heap.size < X from by rw [hX]; have := (Array.getElem?_eq_some_iff.1 HR2.out).1; exact this)
  have HCX := Lib.hid (HC2.out.keptB bx)
  have HGX := Lib.hid (gr_below HG2.out bx)
  have HRX := Lib.hid ((bx.block w.heap.size (Array.getElem?_eq_some_iff.1 HR2.out).1).trans HR2.out)
  have hN3 := cnum_any HCX.out 1099511627776 (by decide) (by decide)
  rw [← HT3.out] at hN3
  have HN3 := Lib.hid hN3
  have HWX := Lib.hid hwx
  have HXE := Lib.hid hX
  clear hX hwx bx hc2 hg2 hN3
  go_wp2_with fail
  rw [← HWX.out, ← HXE.out]
  refine HN3.out.mono ?_
  rintro r w3 ⟨rfl, hc3, hg3⟩
  have HC3 := Lib.hid hc3
  have HG3 := Lib.hid (gr_then HGX.out hg3 (fun x hx => .inl (by cases hx; rfl)))
  have HR3 := Lib.hid ((hg3.block w.heap.size (Array.getElem?_eq_some_iff.1 HRX.out).1 (by intro e9; cases e9; exact absurd HLO.out.1 (Nat.lt_irrefl _))).trans HRX.out)
  have HX3 := Lib.hid ((hg3.block X (Array.getElem?_eq_some_iff.1 HXX.out).1 (by intro e9; cases e9; exact absurd HLO.out.1 (by have := HXL.out; omega))).trans HXX.out)
  have hN4 := cnum_any hc3 1099511627776 (by decide) (by decide)
  rw [← HT4.out] at hN4
  have HN4 := Lib.hid hN4
  clear hc3 hg3 hN4
  go_wp2_with fail
  refine HN4.out.mono ?_
  rintro r w4 ⟨rfl, hc4, hg4⟩
  have HC4 := Lib.hid hc4
  have HG4 := Lib.hid (gr_then HG3.out hg4 (fun x hx => .inl (by cases hx; rfl)))
  have HR4 := Lib.hid ((hg4.block w.heap.size (Array.getElem?_eq_some_iff.1 HR3.out).1 (by intro e9; cases e9; exact absurd HLO.out.1 (Nat.lt_irrefl _))).trans HR3.out)
  have HX4 := Lib.hid ((hg4.block X (Array.getElem?_eq_some_iff.1 HX3.out).1 (by intro e9; cases e9; exact absurd HLO.out.1 (by have := HXL.out; omega))).trans HX3.out)
  have x3 : w4.cell? ⟨X, 3, none⟩ = some (.int .i64 0) := cell_blk HX4.out rfl
  have y3 : w4.frozen? ⟨X, 3, none⟩ = false := fro_blk HX4.out 3
  have x4 : w4.cell? ⟨X, 4, none⟩ = some (.int .i64 0) := cell_blk HX4.out rfl
  have y4 : w4.frozen? ⟨X, 4, none⟩ = false := fro_blk HX4.out 4
  have HXS := Lib.hid (show ((w4.setCell ⟨X, 3, none⟩ (.int .i64 (t3.1 : Int))).setCell ⟨X, 4, none⟩ (.int .i64 (t4.1 : Int))).heap[X]? = some (.cells #[.string (bs t0.1), .int .i64 (t1.1 : Int), .string (bs t2.1), .int .i64 (t3.1 : Int), .int .i64 (t4.1 : Int), .int .i64 0, .int .i64 0, .int .u32 0, .int .i64 0] 53 (0, 0)) from heap_set (heap_set HX4.out 3 _) 4 _)
  have HCS := Lib.hid ((HC4.out.set (X := X) (j := 3) HLO.out (Nat.le_of_lt HXL.out) (.int .i64 (t3.1 : Int))).set (X := X) (j := 4) HLO.out (Nat.le_of_lt HXL.out) (.int .i64 (t4.1 : Int)))
  have HGS := Lib.hid (gr_set (gr_set HG4.out (X := X) (i := 3) (Nat.le_of_lt HXL.out) (.int .i64 (t3.1 : Int))) (X := X) (i := 4) (Nat.le_of_lt HXL.out) (.int .i64 (t4.1 : Int)))
  have HRS := Lib.hid (show ((w4.setCell ⟨X, 3, none⟩ (.int .i64 (t3.1 : Int))).setCell ⟨X, 4, none⟩ (.int .i64 (t4.1 : Int))).heap[w.heap.size]? = some (.cells #[.string { data := #[] }, .int .i64 0, .string { data := #[] }, .int .i64 0, .int .i64 0, .int .i64 0, .int .i64 0, .int .u32 0, .int .i64 0] 53 (0, 0)) from (Below.heap_setCell _ ⟨X, 4, none⟩ _ w.heap.size (by show w.heap.size ≠ X; have := HXL.out; omega)).trans ((Below.heap_setCell _ ⟨X, 3, none⟩ _ w.heap.size (by show w.heap.size ≠ X; have := HXL.out; omega)).trans HR4.out))
  have hN5 := cnum_any HCS.out 2048 (by decide) (by decide)
  rw [← HT5.out] at hN5
  have HN5 := Lib.hid hN5
  clear hc4 hg4 hN5
  go_wp2_with fail
  clear x3 y3 x4 y4
  refine HN5.out.mono ?_
  rintro r w5 ⟨rfl, hc5, hg5⟩
  have HC5 := Lib.hid hc5
  have HG5 := Lib.hid (gr_then HGS.out hg5 (fun x hx => .inl (by cases hx; rfl)))
  have HR5 := Lib.hid ((hg5.block w.heap.size (Array.getElem?_eq_some_iff.1 HRS.out).1 (by intro e9; cases e9; exact absurd HLO.out.1 (Nat.lt_irrefl _))).trans HRS.out)
  have HX5 := Lib.hid ((hg5.block X (Array.getElem?_eq_some_iff.1 HXS.out).1 (by intro e9; cases e9; exact absurd HLO.out.1 (by have := HXL.out; omega))).trans HXS.out)
  have hN6 := cnum_any hc5 262144 (by decide) (by decide)
  rw [← HT6.out] at hN6
  have HN6 := Lib.hid hN6
  clear hc5 hg5 hN6
  go_wp2_with fail
  refine HN6.out.mono ?_
  rintro r w6 ⟨rfl, hc6, hg6⟩
  have HC6 := Lib.hid hc6
  have HG6 := Lib.hid (gr_then HG5.out hg6 (fun x hx => .inl (by cases hx; rfl)))
  have HR6 := Lib.hid ((hg6.block w.heap.size (Array.getElem?_eq_some_iff.1 HR5.out).1 (by intro e9; cases e9; exact absurd HLO.out.1 (Nat.lt_irrefl _))).trans HR5.out)
  have HX6 := Lib.hid ((hg6.block X (Array.getElem?_eq_some_iff.1 HX5.out).1 (by intro e9; cases e9; exact absurd HLO.out.1 (by have := HXL.out; omega))).trans HX5.out)
  have x5 : w6.cell? ⟨X, 5, none⟩ = some (.int .i64 0) := cell_blk HX6.out rfl
  have y5 : w6.frozen? ⟨X, 5, none⟩ = false := fro_blk HX6.out 5
  have x6 : w6.cell? ⟨X, 6, none⟩ = some (.int .i64 0) := cell_blk HX6.out rfl
  have y6 : w6.frozen? ⟨X, 6, none⟩ = false := fro_blk HX6.out 6
  have HXS := Lib.hid (show ((w6.setCell ⟨X, 5, none⟩ (.int .i64 (t5.1 : Int))).setCell ⟨X, 6, none⟩ (.int .i64 (t6.1 : Int))).heap[X]? = some (.cells #[.string (bs t0.1), .int .i64 (t1.1 : Int), .string (bs t2.1), .int .i64 (t3.1 : Int), .int .i64 (t4.1 : Int), .int .i64 (t5.1 : Int), .int .i64 (t6.1 : Int), .int .u32 0, .int .i64 0] 53 (0, 0)) from heap_set (heap_set HX6.out 5 _) 6 _)
  have HCS := Lib.hid ((HC6.out.set (X := X) (j := 5) HLO.out (Nat.le_of_lt HXL.out) (.int .i64 (t5.1 : Int))).set (X := X) (j := 6) HLO.out (Nat.le_of_lt HXL.out) (.int .i64 (t6.1 : Int)))
  have HGS := Lib.hid (gr_set (gr_set HG6.out (X := X) (i := 5) (Nat.le_of_lt HXL.out) (.int .i64 (t5.1 : Int))) (X := X) (i := 6) (Nat.le_of_lt HXL.out) (.int .i64 (t6.1 : Int)))
  have HRS := Lib.hid (show ((w6.setCell ⟨X, 5, none⟩ (.int .i64 (t5.1 : Int))).setCell ⟨X, 6, none⟩ (.int .i64 (t6.1 : Int))).heap[w.heap.size]? = some (.cells #[.string { data := #[] }, .int .i64 0, .string { data := #[] }, .int .i64 0, .int .i64 0, .int .i64 0, .int .i64 0, .int .u32 0, .int .i64 0] 53 (0, 0)) from (Below.heap_setCell _ ⟨X, 6, none⟩ _ w.heap.size (by show w.heap.size ≠ X; have := HXL.out; omega)).trans ((Below.heap_setCell _ ⟨X, 5, none⟩ _ w.heap.size (by show w.heap.size ≠ X; have := HXL.out; omega)).trans HR6.out))
  have hN7 := cnum_any HCS.out 4294967295 (by decide) (by decide)
  rw [← HT7.out] at hN7
  have HN7 := Lib.hid hN7
  clear hc6 hg6 hN7
  go_wp2_with fail
  clear x5 y5 x6 y6
  refine HN7.out.mono ?_
  rintro r w7 ⟨rfl, hc7, hg7⟩
  have HC7 := Lib.hid hc7
  have HG7 := Lib.hid (gr_then HGS.out hg7 (fun x hx => .inl (by cases hx; rfl)))
  have HR7 := Lib.hid ((hg7.block w.heap.size (Array.getElem?_eq_some_iff.1 HRS.out).1 (by intro e9; cases e9; exact absurd HLO.out.1 (Nat.lt_irrefl _))).trans HRS.out)
  have HX7 := Lib.hid ((hg7.block X (Array.getElem?_eq_some_iff.1 HXS.out).1 (by intro e9; cases e9; exact absurd HLO.out.1 (by have := HXL.out; omega))).trans HXS.out)
  have hN8 := cnum_any hc7 1099511627776 (by decide) (by decide)
  rw [← HT8.out] at hN8
  have HN8 := Lib.hid hN8
  clear hc7 hg7 hN8
  go_wp2_with fail
  refine HN8.out.mono ?_
  rintro r w8 ⟨rfl, hc8, hg8⟩
  have HC8 := Lib.hid hc8
  have HG8 := Lib.hid (gr_then HG7.out hg8 (fun x hx => .inl (by cases hx; rfl)))
  have HR8 := Lib.hid ((hg8.block w.heap.size (Array.getElem?_eq_some_iff.1 HR7.out).1 (by intro e9; cases e9; exact absurd HLO.out.1 (Nat.lt_irrefl _))).trans HR7.out)
  have HX8 := Lib.hid ((hg8.block X (Array.getElem?_eq_some_iff.1 HX7.out).1 (by intro e9; cases e9; exact absurd HLO.out.1 (by have := HXL.out; omega))).trans HX7.out)
  have hw7 : (t7.1 : Int) % 4294967296 = (t7.1 : Int) := by have := HU.out; omega
  have x7 : w8.cell? ⟨X, 7, none⟩ = some (.int .u32 0) := cell_blk HX8.out rfl
  have y7 : w8.frozen? ⟨X, 7, none⟩ = false := fro_blk HX8.out 7
  have x8 : w8.cell? ⟨X, 8, none⟩ = some (.int .i64 0) := cell_blk HX8.out rfl
  have y8 : w8.frozen? ⟨X, 8, none⟩ = false := fro_blk HX8.out 8
  have HXS := Lib.hid (show ((w8.setCell ⟨X, 7, none⟩ (.int .u32 (t7.1 : Int))).setCell ⟨X, 8, none⟩ (.int .i64 (t8.1 : Int))).heap[X]? = some (.cells #[.string (bs t0.1), .int .i64 (t1.1 : Int), .string (bs t2.1), .int .i64 (t3.1 : Int), .int .i64 (t4.1 : Int), .int .i64 (t5.1 : Int), .int .i64 (t6.1 : Int), .int .u32 (t7.1 : Int), .int .i64 (t8.1 : Int)] 53 (0, 0)) from heap_set (heap_set HX8.out 7 _) 8 _)
  have HCS := Lib.hid ((HC8.out.set (X := X) (j := 7) HLO.out (Nat.le_of_lt HXL.out) (.int .u32 (t7.1 : Int))).set (X := X) (j := 8) HLO.out (Nat.le_of_lt HXL.out) (.int .i64 (t8.1 : Int)))
  have HGS := Lib.hid (gr_set (gr_set HG8.out (X := X) (i := 7) (Nat.le_of_lt HXL.out) (.int .u32 (t7.1 : Int))) (X := X) (i := 8) (Nat.le_of_lt HXL.out) (.int .i64 (t8.1 : Int)))
  have HRS := Lib.hid (show ((w8.setCell ⟨X, 7, none⟩ (.int .u32 (t7.1 : Int))).setCell ⟨X, 8, none⟩ (.int .i64 (t8.1 : Int))).heap[w.heap.size]? = some (.cells #[.string { data := #[] }, .int .i64 0, .string { data := #[] }, .int .i64 0, .int .i64 0, .int .i64 0, .int .i64 0, .int .u32 0, .int .i64 0] 53 (0, 0)) from (Below.heap_setCell _ ⟨X, 8, none⟩ _ w.heap.size (by show w.heap.size ≠ X; have := HXL.out; omega)).trans ((Below.heap_setCell _ ⟨X, 7, none⟩ _ w.heap.size (by show w.heap.size ≠ X; have := HXL.out; omega)).trans HR8.out))
  obtain ⟨wz, hwz⟩ : ∃ wz, wz = ((w8.setCell ⟨X, 7, none⟩ (.int .u32 (t7.1 : Int))).setCell ⟨X, 8, none⟩ (.int .i64 (t8.1 : Int))) := ⟨_, rfl⟩
  have hl9 : w.heap.size ≠ X := by have := HXL.out; omega
  rw [← hwz] at HXS HCS HGS HRS
  have z0 : wz.cell? ⟨X, 0, none⟩ = some (.string (bs t0.1)) := cell_blk HXS.out rfl
  have z1 : wz.cell? ⟨X, 1, none⟩ = some (.int .i64 (t1.1 : Int)) := cell_blk HXS.out rfl
  have z2 : wz.cell? ⟨X, 2, none⟩ = some (.string (bs t2.1)) := cell_blk HXS.out rfl
  have z3 : wz.cell? ⟨X, 3, none⟩ = some (.int .i64 (t3.1 : Int)) := cell_blk HXS.out rfl
  have z4 : wz.cell? ⟨X, 4, none⟩ = some (.int .i64 (t4.1 : Int)) := cell_blk HXS.out rfl
  have z5 : wz.cell? ⟨X, 5, none⟩ = some (.int .i64 (t5.1 : Int)) := cell_blk HXS.out rfl
  have z6 : wz.cell? ⟨X, 6, none⟩ = some (.int .i64 (t6.1 : Int)) := cell_blk HXS.out rfl
  have z7 : wz.cell? ⟨X, 7, none⟩ = some (.int .u32 (t7.1 : Int)) := cell_blk HXS.out rfl
  have z8 : wz.cell? ⟨X, 8, none⟩ = some (.int .i64 (t8.1 : Int)) := cell_blk HXS.out rfl
  have a0 : wz.cell? ⟨w.heap.size, 0, none⟩ = some (.string { data := #[] }) := cell_blk HRS.out rfl
  have b0 : wz.frozen? ⟨w.heap.size, 0, none⟩ = false := fro_blk HRS.out 0
  have a1 : wz.cell? ⟨w.heap.size, 1, none⟩ = some (.int .i64 0) := cell_blk HRS.out rfl
  have b1 : wz.frozen? ⟨w.heap.size, 1, none⟩ = false := fro_blk HRS.out 1
  have a2 : wz.cell? ⟨w.heap.size, 2, none⟩ = some (.string { data := #[] }) := cell_blk HRS.out rfl
  have b2 : wz.frozen? ⟨w.heap.size, 2, none⟩ = false := fro_blk HRS.out 2
  have a3 : wz.cell? ⟨w.heap.size, 3, none⟩ = some (.int .i64 0) := cell_blk HRS.out rfl
  have b3 : wz.frozen? ⟨w.heap.size, 3, none⟩ = false := fro_blk HRS.out 3
  have a4 : wz.cell? ⟨w.heap.size, 4, none⟩ = some (.int .i64 0) := cell_blk HRS.out rfl
  have b4 : wz.frozen? ⟨w.heap.size, 4, none⟩ = false := fro_blk HRS.out 4
  have a5 : wz.cell? ⟨w.heap.size, 5, none⟩ = some (.int .i64 0) := cell_blk HRS.out rfl
  have b5 : wz.frozen? ⟨w.heap.size, 5, none⟩ = false := fro_blk HRS.out 5
  have a6 : wz.cell? ⟨w.heap.size, 6, none⟩ = some (.int .i64 0) := cell_blk HRS.out rfl
  have b6 : wz.frozen? ⟨w.heap.size, 6, none⟩ = false := fro_blk HRS.out 6
  have a7 : wz.cell? ⟨w.heap.size, 7, none⟩ = some (.int .u32 0) := cell_blk HRS.out rfl
  have b7 : wz.frozen? ⟨w.heap.size, 7, none⟩ = false := fro_blk HRS.out 7
  have a8 : wz.cell? ⟨w.heap.size, 8, none⟩ = some (.int .i64 0) := cell_blk HRS.out rfl
  have b8 : wz.frozen? ⟨w.heap.size, 8, none⟩ = false := fro_blk HRS.out 8
  have HWZ := Lib.hid hwz
  rw [hwz] at z0 z1 z2 z3 z4 z5 z6 z7 z8 a0 a1 a2 a3 a4 a5 a6 a7 a8 b0 b1 b2 b3 b4 b5 b6 b7 b8
  clear hc8 hg8 hwz
  go_wp2_with fail
  rw [← HWZ.out]
  have hr9 := setE HRS.out (bs t0.1) (t1.1 : Int) (bs t2.1) (t3.1 : Int) (t4.1 : Int) (t5.1 : Int) (t6.1 : Int) (t7.1 : Int) (t8.1 : Int)
  refine bodyPost_ret (v := .agg #[.string (bs t0.1), .int .i64 (t1.1 : Int), .string (bs t2.1), .int .i64 (t3.1 : Int), .int .i64 (t4.1 : Int), .int .i64 (t5.1 : Int), .int .i64 (t6.1 : Int), .int .u32 (t7.1 : Int), .int .i64 (t8.1 : Int)]) (by simp [results, Tryz.results52, go_sem, cell_blk hr9 (i := 0) rfl, cell_blk hr9 (i := 1) rfl, cell_blk hr9 (i := 2) rfl, cell_blk hr9 (i := 3) rfl, cell_blk hr9 (i := 4) rfl, cell_blk hr9 (i := 5) rfl, cell_blk hr9 (i := 6) rfl, cell_blk hr9 (i := 7) rfl, cell_blk hr9 (i := 8) rfl]) rfl ?_
  rw [HV.out.1, HV.out.2]
  exact ⟨rfl, (((((((((HCS.out.set HLO.out (Nat.le_refl _) _).set HLO.out (Nat.le_refl _) _).set HLO.out (Nat.le_refl _) _).set HLO.out (Nat.le_refl _) _).set HLO.out (Nat.le_refl _) _).set HLO.out (Nat.le_refl _) _).set HLO.out (Nat.le_refl _) _).set HLO.out (Nat.le_refl _) _).set HLO.out (Nat.le_refl _) _), (gr_set (gr_set (gr_set (gr_set (gr_set (gr_set (gr_set (gr_set (gr_set HGS.out (Nat.le_refl _) _) (Nat.le_refl _) _) (Nat.le_refl _) _) (Nat.le_refl _) _) (Nat.le_refl _) _) (Nat.le_refl _) _) (Nat.le_refl _) _) (Nat.le_refl _) _) (Nat.le_refl _) _)⟩
end Go.Proofs.YtbdgcfimbblncaaGreatDoor
end PkMB3_3
section PkMB3_4
/- Manifests: reading lists of entries, marks and owners by a cursor. Written by genmfd2.py. -/
namespace Go.Proofs.YtbdgcfimbblncaaGreatDoor
open Go.RowKit NumsPlain LabPlain
set_option linter.unusedVariables false

/-- the place behind k things; the things -/
def stK (g : Nat × Nat → Nat × Nat) : Nat → Nat × Nat → Nat × Nat
  | 0, s => s
  | k + 1, s => g (stK g k s)
def vlK {α : Type} (v : Nat × Nat → α) (g : Nat × Nat → Nat × Nat) : Nat → Nat × Nat → List α
  | 0, _ => []
  | k + 1, s => vlK v g k s ++ [v (stK g k s)]
theorem vlK_len {α : Type} (v : Nat × Nat → α) (g : Nat × Nat → Nat × Nat) (s : Nat × Nat) : ∀ k, (vlK v g k s).length = k
  | 0 => rfl
  | k + 1 => by rw [vlK, List.length_append, vlK_len v g s k]; rfl
theorem cb_len (xs : List Nat) (i e : Nat) (k : Int) : (cb xs i e k).1.length ≤ xs.length := by
  unfold cb
  split
  · simp
  · split
    · simp
    · simp only [List.length_take, List.length_drop]; omega
theorem ct_len (xs : List Nat) (i e : Nat) (m : Int) : (ct xs i e m).1.length ≤ xs.length := by
  unfold ct
  split
  · simp
  · split
    · simp
    · exact cb_len _ _ _ _
theorem bs_size9 (l : List Nat) : (bs l).size = l.length := by
  show (bs l).data.size = _
  unfold bs
  rw [← Array.length_toList, strOfNums_data]
  simp
theorem enV_ok {xs : List Nat} {mw mr mz : Int} {s : Nat × Nat} (h : xs.length ≤ 140737488351232) : (enV xs mw mr mz s).key.size ≤ 140737488355328 ∧ (enV xs mw mr mz s).part.size ≤ 140737488355328 ∧ (0 ≤ (enV xs mw mr mz s).sum ∧ (enV xs mw mr mz s).sum ≤ 4294967295) := by
  refine ⟨?_, ?_, ?_, ?_⟩
  · show (bs (rT xs 40 s)).size ≤ _
    rw [bs_size9]
    have := ct_len xs s.1 s.2 40
    unfold rT; omega
  · show (bs (rT xs 1024 _)).size ≤ _
    rw [bs_size9]
    have := ct_len xs (sN xs mw (sT xs 40 s)).1 (sN xs mw (sT xs 40 s)).2 1024
    unfold rT; omega
  · exact Int.natCast_nonneg _
  · exact ccn_le (by decide)

set_option maxRecDepth 100000 in
set_option maxHeartbeats 4000000 in
theorem eachE_any {w : World} {B : Nat} {a : Option Addr} {n c : Nat} {xs : List Nat} {i e : Nat} (h : CurAt 123 w B a n c xs i e) :
    Calls Tryz.prog 51 #[.pointer (some ⟨B, 0, none⟩), .int .i64 256, .func (.func 52) #[] #[]] w fun r w' => ∃ a' c', r = .returned (.slice a' (rN xs 256 (i, e)) c') ∧ w'.ownsRow w.heap.size 53 9 (.slice a' (rN xs 256 (i, e)) c') (rN xs 256 (i, e)) (EntS.flat (vlK (fun s => enV xs 1099511627776 2048 262144 s) (fun s => enS xs 1099511627776 2048 262144 s) (rN xs 256 (i, e)) (sN xs 256 (i, e)))) ∧ CurAt 123 w' B a n c xs (stK (fun s => enS xs 1099511627776 2048 262144 s) (rN xs 256 (i, e)) (sN xs 256 (i, e))).1 (stK (fun s => enS xs 1099511627776 2048 262144 s) (rN xs 256 (i, e)) (sN xs 256 (i, e))).2 ∧ w.grownBy w' (some B) := by
  have hlo := h.lo
  have hreach : xs.length ≤ 140737488351232 := by rw [h.src.len]; exact h.src.reach
  obtain ⟨N, hN⟩ : ∃ N, N = rN xs 256 (i, e) := ⟨_, rfl⟩
  obtain ⟨s1, hs1⟩ : ∃ s1, s1 = sN xs 256 (i, e) := ⟨_, rfl⟩
  have hNm : (N : Int) ≤ 256 := by rw [hN]; exact ccn_le (by decide)
  obtain ⟨vv, hvv⟩ : ∃ vv, vv = (fun s => enV xs 1099511627776 2048 262144 s) := ⟨_, rfl⟩
  obtain ⟨gg, hgg⟩ : ∃ gg, gg = (fun s => enS xs 1099511627776 2048 262144 s) := ⟨_, rfl⟩
  have hcn := cnum_any h 256 (by decide) (by decide)
  have hcn2 : Calls Tryz.prog 50 #[.pointer (some ⟨B, 0, none⟩), .int .i64 256] w fun r w' => r = .returned (.int .i64 (N : Int)) ∧ CurAt 123 w' B a n c xs s1.1 s1.2 ∧ w.grownBy w' (some B) := by rw [hN, hs1]; exact hcn
  rw [← hN, ← hs1, ← hvv, ← hgg]
  have HON := Lib.hid (show ∀ (W : World) (st : Nat × Nat), CurAt 123 W B a n c xs st.1 st.2 → Calls Tryz.prog 52 #[.pointer (some ⟨B, 0, none⟩)] W fun r w' => r = .returned (.agg (EntS.f (vv st)).toArray) ∧ CurAt 123 w' B a n c xs (gg st).1 (gg st).2 ∧ W.grownBy w' (some B) from fun W st q => by rw [hvv, hgg]; exact entry_any q)
  have HOK := Lib.hid (show ∀ (W : World) st, EntS.ok W (vv st) from fun W st => by rw [hvv]; exact (enV_ok hreach))
  have HCN := Lib.hid hcn2
  have HLO := Lib.hid hlo
  clear h hlo hN hs1 hcn hcn2 hvv hgg hreach
  go_enter Tryz.func51, Tryz.ntmps51
  go_wp2_with fail
  refine HCN.out.mono ?_
  rintro r w1 ⟨rfl, hc1, hg1⟩
  have HC1 := Lib.hid (show CurAt 123 w1 B a n c xs (stK gg 0 s1).1 (stK gg 0 s1).2 from hc1)
  have HG1 := Lib.hid hg1
  have HO1 := Lib.hid (show w1.ownsRow w.heap.size 53 9 (.slice none 0 0) 0 (EntS.flat (vlK vv gg 0 s1)) from World.ownsRow_nil _ _ _ _)
  clear hc1 hg1
  go_wp2_with fail
  go_loopw [7, 11] (fun s7 s11 wr => ∃ (j c9 : Nat) (a9 : Option Addr), j ≤ N ∧ s11 = .int .i64 (j : Int) ∧ s7 = .slice a9 j c9 ∧ Hid (wr.ownsRow w.heap.size 53 9 (.slice a9 j c9) j (EntS.flat (vlK vv gg j s1))) ∧ Hid (CurAt 123 wr B a n c xs (stK gg j s1).1 (stK gg j s1).2) ∧ Hid (w.grownBy wr (some B))) (fun _ s11 _ => N - (intOf s11).toNat)
  case atStart => exact ⟨0, 0, none, by omega, rfl, rfl, HO1, HC1, HG1⟩
  case round =>
    clear HO1 HC1 HG1
    obtain ⟨j, c9, a9, hj, rfl, rfl, HO, HC, HG⟩ := hrel
    rename World => wr
    by_cases hjn : j < N
    · have hji : (j : Int) < (N : Int) := by omega
      have hj300 : j ≤ 300 := by omega
      obtain ⟨x, hx⟩ : ∃ x, x = vv (stK gg j s1) := ⟨_, rfl⟩
      have hok : ∀ W : World, EntS.ok W x := fun W => by rw [hx]; exact HOK.out W _
      have hcall := HON.out _ _ HC.out
      rw [← hx] at hcall
      have HX := Lib.hid hx
      obtain ⟨x0, x1, x2, x3, x4, x5, x6, x7, x8⟩ := x
      have HCALL := Lib.hid (show Calls Tryz.prog 52 #[.pointer (some ⟨B, 0, none⟩)] wr fun r w' => r = .returned (.agg #[.string x0, .int .i64 x1, .string x2, .int .i64 x3, .int .i64 x4, .int .i64 x5, .int .i64 x6, .int .u32 x7, .int .i64 x8]) ∧ CurAt 123 w' B a n c xs (stK gg (j + 1) s1).1 (stK gg (j + 1) s1).2 ∧ wr.grownBy w' (some B) from hcall)
      have HOKX := Lib.hid hok
      clear hx hcall hok
      go_wp2_with fail
      refine HCALL.out.mono ?_
      rintro r w2 ⟨rfl, hc2, hg2⟩
      have HG2 := Lib.hid (gr_then HG.out hg2 (fun y hy => .inl (by cases hy; rfl)))
      have ho2 : w2.ownsRow w.heap.size 53 9 (.slice a9 j c9) j (EntS.flat (vlK vv gg j s1)) := HO.out.kept hg2 (by
        cases e9 : (Value.slice a9 j c9).ownBlock with
        | none => exact .inl rfl
        | some k =>
          refine .inr (fun e => ?_)
          have h1 := (HO.out.lt k e9).1
          have h2 := HLO.out.1
          cases e
          omega)
      have hb3 : Below w2.heap.size w2 (w2.alloc (.cells #[.string x0, .int .i64 x1, .string x2, .int .i64 x3, .int .i64 x4, .int .i64 x5, .int .i64 x6, .int .u32 x7, .int .i64 x8] 53)) := (Below.refl _ _).alloc (Nat.le_refl _) _
      have HO3 := Lib.hid (ho2.alloc (.cells #[.string x0, .int .i64 x1, .string x2, .int .i64 x3, .int .i64 x4, .int .i64 x5, .int .i64 x6, .int .u32 x7, .int .i64 x8] 53))
      have HC3 := Lib.hid (hc2.keptB hb3)
      have HG3 := Lib.hid (gr_below HG2.out hb3)
      have HV3 := Lib.hid (VecAt.ofOwn (S := EntS) (l := [⟨x0, x1, x2, x3, x4, x5, x6, x7, x8⟩]) (World.ownsRow_lit (base := w2.heap.size) (e := 53) (size := 9) w2 #[.string x0, .int .i64 x1, .string x2, .int .i64 x3, .int .i64 x4, .int .i64 x5, .int .i64 x6, .int .u32 x7, .int .i64 x8] 1 (Nat.le_refl _) (by unfold maxLen; omega) rfl) rfl (fun y hy => by rw [List.mem_singleton.1 hy]; exact HOKX.out _))
      have HS3 := Lib.hid (show w.heap.size ≤ (w2.alloc (.cells #[.string x0, .int .i64 x1, .string x2, .int .i64 x3, .int .i64 x4, .int .i64 x5, .int .i64 x6, .int .u32 x7, .int .i64 x8] 53)).heap.size from HG3.out.size)
      clear hc2 hg2 ho2 hb3
      go_wp2_with (at_builtin; refine wpList_append9E rfl (.tmp 13) (.tmp 17) rfl w.heap.size _ j _ rfl HO3.out _ 1 1 [⟨x0, x1, x2, x3, x4, x5, x6, x7, x8⟩] rfl HV3.out (by omega) HS3.out ?_)
      intro v4 w4 ho4 hg4
      have hf : EntS.flat (vlK vv gg j s1 ++ [⟨x0, x1, x2, x3, x4, x5, x6, x7, x8⟩]) = EntS.flat (vlK vv gg (j + 1) s1) := by rw [vlK, HX.out]
      have ho4b : w4.ownsRow w.heap.size 53 9 v4 (j + 1) (EntS.flat (vlK vv gg (j + 1) s1)) := by rw [← hf]; exact ho4
      obtain ⟨a5, c5, rfl⟩ := own_slice9 ho4b
      have HO4 := Lib.hid ho4b
      have HG4 := Lib.hid (gr_then HG3.out hg4 (fun y hy => .inr (HO3.out.lt y hy).1))
      have HC4 := Lib.hid (HC3.out.low HLO.out (fun k hk => hg4.block k (Nat.lt_of_lt_of_le hk HS3.out) (fun e => by have := (HO3.out.lt k e.symm).1; omega)) hg4.size)
      clear ho4 ho4b hg4 hf
      go_wp2_with fail
      go_roundw
      case rel => exact ⟨j + 1, c5, a5, by omega, by go_num, rfl, HO4, HC4, HG4⟩
      case measure => simp [intOf]; omega
    · obtain rfl : N = j := by omega
      clear hjn
      go_wp2_with fail
      go_ret
      exact ⟨_, _, rfl, HO.out, HC.out, HG.out⟩

set_option maxRecDepth 100000 in
set_option maxHeartbeats 4000000 in
theorem eachM_any {w : World} {B : Nat} {a : Option Addr} {n c : Nat} {xs : List Nat} {i e : Nat} (h : CurAt 123 w B a n c xs i e) :
    Calls Tryz.prog 53 #[.pointer (some ⟨B, 0, none⟩), .int .i64 64, .func (.func 54) #[] #[]] w fun r w' => ∃ a' c', r = .returned (.slice a' (rN xs 64 (i, e)) c') ∧ w'.ownsRow w.heap.size 43 2 (.slice a' (rN xs 64 (i, e)) c') (rN xs 64 (i, e)) (MarkS.flat (vlK (fun s => mkV xs 64 1099511627776 s) (fun s => mkS xs 64 1099511627776 s) (rN xs 64 (i, e)) (sN xs 64 (i, e)))) ∧ CurAt 123 w' B a n c xs (stK (fun s => mkS xs 64 1099511627776 s) (rN xs 64 (i, e)) (sN xs 64 (i, e))).1 (stK (fun s => mkS xs 64 1099511627776 s) (rN xs 64 (i, e)) (sN xs 64 (i, e))).2 ∧ w.grownBy w' (some B) := by
  have hlo := h.lo
  have hreach : xs.length ≤ 140737488351232 := by rw [h.src.len]; exact h.src.reach
  obtain ⟨N, hN⟩ : ∃ N, N = rN xs 64 (i, e) := ⟨_, rfl⟩
  obtain ⟨s1, hs1⟩ : ∃ s1, s1 = sN xs 64 (i, e) := ⟨_, rfl⟩
  have hNm : (N : Int) ≤ 64 := by rw [hN]; exact ccn_le (by decide)
  obtain ⟨vv, hvv⟩ : ∃ vv, vv = (fun s => mkV xs 64 1099511627776 s) := ⟨_, rfl⟩
  obtain ⟨gg, hgg⟩ : ∃ gg, gg = (fun s => mkS xs 64 1099511627776 s) := ⟨_, rfl⟩
  have hcn := cnum_any h 64 (by decide) (by decide)
  have hcn2 : Calls Tryz.prog 50 #[.pointer (some ⟨B, 0, none⟩), .int .i64 64] w fun r w' => r = .returned (.int .i64 (N : Int)) ∧ CurAt 123 w' B a n c xs s1.1 s1.2 ∧ w.grownBy w' (some B) := by rw [hN, hs1]; exact hcn
  rw [← hN, ← hs1, ← hvv, ← hgg]
  have HON := Lib.hid (show ∀ (W : World) (st : Nat × Nat), CurAt 123 W B a n c xs st.1 st.2 → Calls Tryz.prog 54 #[.pointer (some ⟨B, 0, none⟩)] W fun r w' => r = .returned (.agg (MarkS.f (vv st)).toArray) ∧ CurAt 123 w' B a n c xs (gg st).1 (gg st).2 ∧ W.grownBy w' (some B) from fun W st q => by rw [hvv, hgg]; exact dmk_any q)
  have HOK := Lib.hid (show ∀ (W : World) st, MarkS.ok W (vv st) from fun W st => by rw [hvv]; exact trivial)
  have HCN := Lib.hid hcn2
  have HLO := Lib.hid hlo
  clear h hlo hN hs1 hcn hcn2 hvv hgg hreach
  go_enter Tryz.func53, Tryz.ntmps53
  go_wp2_with fail
  refine HCN.out.mono ?_
  rintro r w1 ⟨rfl, hc1, hg1⟩
  have HC1 := Lib.hid (show CurAt 123 w1 B a n c xs (stK gg 0 s1).1 (stK gg 0 s1).2 from hc1)
  have HG1 := Lib.hid hg1
  have HO1 := Lib.hid (show w1.ownsRow w.heap.size 43 2 (.slice none 0 0) 0 (MarkS.flat (vlK vv gg 0 s1)) from World.ownsRow_nil _ _ _ _)
  clear hc1 hg1
  go_wp2_with fail
  go_loopw [7, 11] (fun s7 s11 wr => ∃ (j c9 : Nat) (a9 : Option Addr), j ≤ N ∧ s11 = .int .i64 (j : Int) ∧ s7 = .slice a9 j c9 ∧ Hid (wr.ownsRow w.heap.size 43 2 (.slice a9 j c9) j (MarkS.flat (vlK vv gg j s1))) ∧ Hid (CurAt 123 wr B a n c xs (stK gg j s1).1 (stK gg j s1).2) ∧ Hid (w.grownBy wr (some B))) (fun _ s11 _ => N - (intOf s11).toNat)
  case atStart => exact ⟨0, 0, none, by omega, rfl, rfl, HO1, HC1, HG1⟩
  case round =>
    clear HO1 HC1 HG1
    obtain ⟨j, c9, a9, hj, rfl, rfl, HO, HC, HG⟩ := hrel
    rename World => wr
    by_cases hjn : j < N
    · have hji : (j : Int) < (N : Int) := by omega
      have hj300 : j ≤ 300 := by omega
      obtain ⟨x, hx⟩ : ∃ x, x = vv (stK gg j s1) := ⟨_, rfl⟩
      have hok : ∀ W : World, MarkS.ok W x := fun W => by rw [hx]; exact HOK.out W _
      have hcall := HON.out _ _ HC.out
      rw [← hx] at hcall
      have HX := Lib.hid hx
      obtain ⟨x0, x1⟩ := x
      have HCALL := Lib.hid (show Calls Tryz.prog 54 #[.pointer (some ⟨B, 0, none⟩)] wr fun r w' => r = .returned (.agg #[.int .i64 x0, .int .i64 x1]) ∧ CurAt 123 w' B a n c xs (stK gg (j + 1) s1).1 (stK gg (j + 1) s1).2 ∧ wr.grownBy w' (some B) from hcall)
      have HOKX := Lib.hid hok
      clear hx hcall hok
      go_wp2_with fail
      refine HCALL.out.mono ?_
      rintro r w2 ⟨rfl, hc2, hg2⟩
      have HG2 := Lib.hid (gr_then HG.out hg2 (fun y hy => .inl (by cases hy; rfl)))
      have ho2 : w2.ownsRow w.heap.size 43 2 (.slice a9 j c9) j (MarkS.flat (vlK vv gg j s1)) := HO.out.kept hg2 (by
        cases e9 : (Value.slice a9 j c9).ownBlock with
        | none => exact .inl rfl
        | some k =>
          refine .inr (fun e => ?_)
          have h1 := (HO.out.lt k e9).1
          have h2 := HLO.out.1
          cases e
          omega)
      have hb3 : Below w2.heap.size w2 (w2.alloc (.cells #[.int .i64 x0, .int .i64 x1] 43)) := (Below.refl _ _).alloc (Nat.le_refl _) _
      have HO3 := Lib.hid (ho2.alloc (.cells #[.int .i64 x0, .int .i64 x1] 43))
      have HC3 := Lib.hid (hc2.keptB hb3)
      have HG3 := Lib.hid (gr_below HG2.out hb3)
      have HV3 := Lib.hid (VecAt.ofOwn (S := MarkS) (l := [(x0, x1)]) (World.ownsRow_lit (base := w2.heap.size) (e := 43) (size := 2) w2 #[.int .i64 x0, .int .i64 x1] 1 (Nat.le_refl _) (by unfold maxLen; omega) rfl) rfl (fun y hy => by rw [List.mem_singleton.1 hy]; exact HOKX.out _))
      have HS3 := Lib.hid (show w.heap.size ≤ (w2.alloc (.cells #[.int .i64 x0, .int .i64 x1] 43)).heap.size from HG3.out.size)
      clear hc2 hg2 ho2 hb3
      go_wp2_with (at_builtin; refine wpList_append9M rfl (.tmp 13) (.tmp 17) rfl w.heap.size _ j _ rfl HO3.out _ 1 1 [(x0, x1)] rfl HV3.out (by omega) HS3.out ?_)
      intro v4 w4 ho4 hg4
      have hf : MarkS.flat (vlK vv gg j s1 ++ [(x0, x1)]) = MarkS.flat (vlK vv gg (j + 1) s1) := by rw [vlK, HX.out]
      have ho4b : w4.ownsRow w.heap.size 43 2 v4 (j + 1) (MarkS.flat (vlK vv gg (j + 1) s1)) := by rw [← hf]; exact ho4
      obtain ⟨a5, c5, rfl⟩ := own_slice9 ho4b
      have HO4 := Lib.hid ho4b
      have HG4 := Lib.hid (gr_then HG3.out hg4 (fun y hy => .inr (HO3.out.lt y hy).1))
      have HC4 := Lib.hid (HC3.out.low HLO.out (fun k hk => hg4.block k (Nat.lt_of_lt_of_le hk HS3.out) (fun e => by have := (HO3.out.lt k e.symm).1; omega)) hg4.size)
      clear ho4 ho4b hg4 hf
      go_wp2_with fail
      go_roundw
      case rel => exact ⟨j + 1, c5, a5, by omega, by go_num, rfl, HO4, HC4, HG4⟩
      case measure => simp [intOf]; omega
    · obtain rfl : N = j := by omega
      clear hjn
      go_wp2_with fail
      go_ret
      exact ⟨_, _, rfl, HO.out, HC.out, HG.out⟩

set_option maxRecDepth 100000 in
set_option maxHeartbeats 4000000 in
theorem eachO_any {w : World} {B : Nat} {a : Option Addr} {n c : Nat} {xs : List Nat} {i e : Nat} (h : CurAt 123 w B a n c xs i e) :
    Calls Tryz.prog 55 #[.pointer (some ⟨B, 0, none⟩), .int .i64 8, .func (.func 56) #[] #[]] w fun r w' => ∃ a' c', r = .returned (.slice a' (rN xs 8 (i, e)) c') ∧ w'.ownsRow w.heap.size 45 3 (.slice a' (rN xs 8 (i, e)) c') (rN xs 8 (i, e)) (OwnS.flat (vlK (fun s => owV xs 8 1099511627776 s) (fun s => owS xs 8 1099511627776 s) (rN xs 8 (i, e)) (sN xs 8 (i, e)))) ∧ CurAt 123 w' B a n c xs (stK (fun s => owS xs 8 1099511627776 s) (rN xs 8 (i, e)) (sN xs 8 (i, e))).1 (stK (fun s => owS xs 8 1099511627776 s) (rN xs 8 (i, e)) (sN xs 8 (i, e))).2 ∧ w.grownBy w' (some B) := by
  have hlo := h.lo
  have hreach : xs.length ≤ 140737488351232 := by rw [h.src.len]; exact h.src.reach
  obtain ⟨N, hN⟩ : ∃ N, N = rN xs 8 (i, e) := ⟨_, rfl⟩
  obtain ⟨s1, hs1⟩ : ∃ s1, s1 = sN xs 8 (i, e) := ⟨_, rfl⟩
  have hNm : (N : Int) ≤ 8 := by rw [hN]; exact ccn_le (by decide)
  obtain ⟨vv, hvv⟩ : ∃ vv, vv = (fun s => owV xs 8 1099511627776 s) := ⟨_, rfl⟩
  obtain ⟨gg, hgg⟩ : ∃ gg, gg = (fun s => owS xs 8 1099511627776 s) := ⟨_, rfl⟩
  have hcn := cnum_any h 8 (by decide) (by decide)
  have hcn2 : Calls Tryz.prog 50 #[.pointer (some ⟨B, 0, none⟩), .int .i64 8] w fun r w' => r = .returned (.int .i64 (N : Int)) ∧ CurAt 123 w' B a n c xs s1.1 s1.2 ∧ w.grownBy w' (some B) := by rw [hN, hs1]; exact hcn
  rw [← hN, ← hs1, ← hvv, ← hgg]
  have HON := Lib.hid (show ∀ (W : World) (st : Nat × Nat), CurAt 123 W B a n c xs st.1 st.2 → Calls Tryz.prog 56 #[.pointer (some ⟨B, 0, none⟩)] W fun r w' => r = .returned (.agg (OwnS.f (vv st)).toArray) ∧ CurAt 123 w' B a n c xs (gg st).1 (gg st).2 ∧ W.grownBy w' (some B) from fun W st q => by rw [hvv, hgg]; exact dow_any q)
  have HOK := Lib.hid (show ∀ (W : World) st, OwnS.ok W (vv st) from fun W st => by rw [hvv]; exact trivial)
  have HCN := Lib.hid hcn2
  have HLO := Lib.hid hlo
  clear h hlo hN hs1 hcn hcn2 hvv hgg hreach
  go_enter Tryz.func55, Tryz.ntmps55
  go_wp2_with fail
  refine HCN.out.mono ?_
  rintro r w1 ⟨rfl, hc1, hg1⟩
  have HC1 := Lib.hid (show CurAt 123 w1 B a n c xs (stK gg 0 s1).1 (stK gg 0 s1).2 from hc1)
  have HG1 := Lib.hid hg1
  have HO1 := Lib.hid (show w1.ownsRow w.heap.size 45 3 (.slice none 0 0) 0 (OwnS.flat (vlK vv gg 0 s1)) from World.ownsRow_nil _ _ _ _)
  clear hc1 hg1
  go_wp2_with fail
  go_loopw [7, 11] (fun s7 s11 wr => ∃ (j c9 : Nat) (a9 : Option Addr), j ≤ N ∧ s11 = .int .i64 (j : Int) ∧ s7 = .slice a9 j c9 ∧ Hid (wr.ownsRow w.heap.size 45 3 (.slice a9 j c9) j (OwnS.flat (vlK vv gg j s1))) ∧ Hid (CurAt 123 wr B a n c xs (stK gg j s1).1 (stK gg j s1).2) ∧ Hid (w.grownBy wr (some B))) (fun _ s11 _ => N - (intOf s11).toNat)
  case atStart => exact ⟨0, 0, none, by omega, rfl, rfl, HO1, HC1, HG1⟩
  case round =>
    clear HO1 HC1 HG1
    obtain ⟨j, c9, a9, hj, rfl, rfl, HO, HC, HG⟩ := hrel
    rename World => wr
    by_cases hjn : j < N
    · have hji : (j : Int) < (N : Int) := by omega
      have hj300 : j ≤ 300 := by omega
      obtain ⟨x, hx⟩ : ∃ x, x = vv (stK gg j s1) := ⟨_, rfl⟩
      have hok : ∀ W : World, OwnS.ok W x := fun W => by rw [hx]; exact HOK.out W _
      have hcall := HON.out _ _ HC.out
      rw [← hx] at hcall
      have HX := Lib.hid hx
      obtain ⟨x0, x1, x2⟩ := x
      have HCALL := Lib.hid (show Calls Tryz.prog 56 #[.pointer (some ⟨B, 0, none⟩)] wr fun r w' => r = .returned (.agg #[.int .i64 x0, .int .i64 x1, .int .i64 x2]) ∧ CurAt 123 w' B a n c xs (stK gg (j + 1) s1).1 (stK gg (j + 1) s1).2 ∧ wr.grownBy w' (some B) from hcall)
      have HOKX := Lib.hid hok
      clear hx hcall hok
      go_wp2_with fail
      refine HCALL.out.mono ?_
      rintro r w2 ⟨rfl, hc2, hg2⟩
      have HG2 := Lib.hid (gr_then HG.out hg2 (fun y hy => .inl (by cases hy; rfl)))
      have ho2 : w2.ownsRow w.heap.size 45 3 (.slice a9 j c9) j (OwnS.flat (vlK vv gg j s1)) := HO.out.kept hg2 (by
        cases e9 : (Value.slice a9 j c9).ownBlock with
        | none => exact .inl rfl
        | some k =>
          refine .inr (fun e => ?_)
          have h1 := (HO.out.lt k e9).1
          have h2 := HLO.out.1
          cases e
          omega)
      have hb3 : Below w2.heap.size w2 (w2.alloc (.cells #[.int .i64 x0, .int .i64 x1, .int .i64 x2] 45)) := (Below.refl _ _).alloc (Nat.le_refl _) _
      have HO3 := Lib.hid (ho2.alloc (.cells #[.int .i64 x0, .int .i64 x1, .int .i64 x2] 45))
      have HC3 := Lib.hid (hc2.keptB hb3)
      have HG3 := Lib.hid (gr_below HG2.out hb3)
      have HV3 := Lib.hid (VecAt.ofOwn (S := OwnS) (l := [(x0, x1, x2)]) (World.ownsRow_lit (base := w2.heap.size) (e := 45) (size := 3) w2 #[.int .i64 x0, .int .i64 x1, .int .i64 x2] 1 (Nat.le_refl _) (by unfold maxLen; omega) rfl) rfl (fun y hy => by rw [List.mem_singleton.1 hy]; exact HOKX.out _))
      have HS3 := Lib.hid (show w.heap.size ≤ (w2.alloc (.cells #[.int .i64 x0, .int .i64 x1, .int .i64 x2] 45)).heap.size from HG3.out.size)
      clear hc2 hg2 ho2 hb3
      go_wp2_with (at_builtin; refine wpList_append9O rfl (.tmp 13) (.tmp 17) rfl w.heap.size _ j _ rfl HO3.out _ 1 1 [(x0, x1, x2)] rfl HV3.out (by omega) HS3.out ?_)
      intro v4 w4 ho4 hg4
      have hf : OwnS.flat (vlK vv gg j s1 ++ [(x0, x1, x2)]) = OwnS.flat (vlK vv gg (j + 1) s1) := by rw [vlK, HX.out]
      have ho4b : w4.ownsRow w.heap.size 45 3 v4 (j + 1) (OwnS.flat (vlK vv gg (j + 1) s1)) := by rw [← hf]; exact ho4
      obtain ⟨a5, c5, rfl⟩ := own_slice9 ho4b
      have HO4 := Lib.hid ho4b
      have HG4 := Lib.hid (gr_then HG3.out hg4 (fun y hy => .inr (HO3.out.lt y hy).1))
      have HC4 := Lib.hid (HC3.out.low HLO.out (fun k hk => hg4.block k (Nat.lt_of_lt_of_le hk HS3.out) (fun e => by have := (HO3.out.lt k e.symm).1; omega)) hg4.size)
      clear ho4 ho4b hg4 hf
      go_wp2_with fail
      go_roundw
      case rel => exact ⟨j + 1, c5, a5, by omega, by go_num, rfl, HO4, HC4, HG4⟩
      case measure => simp [intOf]; omega
    · obtain rfl : N = j := by omega
      clear hjn
      go_wp2_with fail
      go_ret
      exact ⟨_, _, rfl, HO.out, HC.out, HG.out⟩
end Go.Proofs.YtbdgcfimbblncaaGreatDoor
end PkMB3_4
section PkMB3_5
/- What rises, and is right one by one: plain. Written by genmfr.py. -/
namespace Go.Proofs.YtbdgcfimbblncaaGreatDoor
open Go.RowKit
set_option linter.unusedVariables false

/-- each is right, and above the one ahead -/
def RisOk {α : Type} (p : α → Bool) (cm : α → α → Int) (d : α) (l : List α) (k : Nat) : Prop := ∀ j, j < k → p (l.getD j d) = true ∧ (0 < j → cm (l.getD (j - 1) d) (l.getD j d) < 0)
def RisIs {α : Type} (p : α → Bool) (cm : α → α → Int) (d : α) (l : List α) (n : Nat) (e : Ending) : Prop := ∃ b : Bool, e = .returned (.bool b) ∧ (b = true ↔ RisOk p cm d l n)
theorem RisOk.succ {α : Type} {p : α → Bool} {cm : α → α → Int} {d : α} {l : List α} {k : Nat} (h : RisOk p cm d l k) (h1 : p (l.getD k d) = true) (h2 : 0 < k → cm (l.getD (k - 1) d) (l.getD k d) < 0) : RisOk p cm d l (k + 1) := fun j hj => by
  rcases Nat.lt_or_ge j k with g | g
  · exact h j g
  · obtain rfl : j = k := by omega
    exact ⟨h1, h2⟩
theorem RisIs.no {α : Type} {p : α → Bool} {cm : α → α → Int} {d : α} {l : List α} {k n : Nat} (hk : k < n) (h : ¬ (p (l.getD k d) = true ∧ (0 < k → cm (l.getD (k - 1) d) (l.getD k d) < 0))) : RisIs p cm d l n (.returned (.bool false)) :=
  ⟨false, rfl, ⟨fun e => (by cases e), fun g => absurd (g k hk) h⟩⟩
theorem RisIs.yes {α : Type} {p : α → Bool} {cm : α → α → Int} {d : α} {l : List α} {n : Nat} (h : RisOk p cm d l n) : RisIs p cm d l n (.returned (.bool true)) := ⟨true, rfl, ⟨fun _ => h, fun _ => rfl⟩⟩

end Go.Proofs.YtbdgcfimbblncaaGreatDoor
end PkMB3_5
