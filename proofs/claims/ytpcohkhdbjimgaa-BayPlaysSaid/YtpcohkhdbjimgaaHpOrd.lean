/- A region whose operations come up in any order, as wp_region_inv, and told of the values at its start. -/
import Derived.Test.YtpcohkhdbjimgaaEAnyOrd
namespace Go.Proofs.Ytpcohkhdbjimgaa
open Go.RowKit
set_option linter.unusedVariables false

/-- the values at the start -/
def was (ops : Array Oper) (a : Act) (i : Nat) : Value := match slotOf ops i with | some d => a.tmps.getD d undef | none => undef
theorem fill_was {ops : Array Oper} {a : Act} : ∀ k, fill ops a (was ops a) k = a
  | 0 => rfl
  | k + 1 => by
    rw [fill, fill_was k]
    unfold was
    cases h : slotOf ops k with
    | none => rfl
    | some d => exact put_self a d
theorem wp_region_inv0 {P : Program} {ops : Array Oper} {Q : Exit → Act → World → Prop} {id : Nat} {a : Act} {w : World} (hm : P.follows .mixedOrders = true)
    (hne : ((List.range ops.size).all fun i => (List.range ops.size).all fun j => decide (i = j) || (slotOf ops i == none) || !(slotOf ops i == slotOf ops j)) = true)
    (hac : ((List.range ops.size).all fun i => (ops[i]?).all fun (o : Oper) => o.after.all fun (e : Edge) => !Region.binds .any e || decide (e.on < i)) = true)
    (I : (Nat → Bool) → (Nat → Value) → World → Prop) (h0 : I (fun _ => false) (was ops a) w.drew)
    (step : ∀ (i : Nat) (o : Oper), ops[i]? = some o → ∀ (L : Nat → Bool) (v : Nat → Value) (w1 : World) (K : Act → World → Prop), I L v w1 → L i = false → (∀ e : Edge, e ∈ o.after → Region.binds .any e = true → L e.on = true) →
      (∀ x w2, I (fun j => L j || decide (j = i)) (upd v i x) w2 → ∀ a2, a2 = (fill ops a v ops.size).put o.dst x → K a2 w2) →
      if Region.wanted o (yielded ops (fill ops a v ops.size).tmps) = true then Oper.wp P o (fill ops a v ops.size) w1 K Q else K ((fill ops a v ops.size).put o.dst undef) w1)
    (last : ∀ (L : Nat → Bool) (v : Nat → Value) (w1 : World), I L v w1 → (∀ i, i < ops.size → L i = true) → Q .normal (fill ops a v ops.size) w1) : (Code.region id ops true).wp P Q a w := by
  have hne2 : ∀ i j d, i < ops.size → j < ops.size → slotOf ops i = some d → slotOf ops j = some d → i = j := by
    intro i j d hi hj h1 h2
    have := List.all_eq_true.1 (List.all_eq_true.1 hne i (List.mem_range.2 hi)) j (List.mem_range.2 hj)
    rw [h1, h2] at this
    simpa using this
  have hac2 : ∀ (i : Nat) (o : Oper), ops[i]? = some o → ∀ e : Edge, e ∈ o.after → Region.binds .any e = true → e.on < i := by
    intro i o ho e he hb
    have hlt := (Array.getElem?_eq_some_iff.1 ho).1
    have := List.all_eq_true.1 hac i (List.mem_range.2 hlt)
    rw [ho] at this
    have h3 : (o.after.all fun (e : Edge) => !Region.binds .any e || decide (e.on < i)) = true := this
    have h2 := Array.all_eq_true_iff_forall_mem.1 h3 e he
    rw [hb] at h2
    simpa using h2
  refine wp_region_any hm ?_
  have key : ∀ (fuel : Nat) (listed : Array Bool) (v : Nat → Value) (w1 : World), listed.size = ops.size → I (fun i => listed.getD i false) v w1 →
      ((List.range ops.size).filter fun i => !listed.getD i true).length ≤ fuel → wpAny P .any ops Q fuel listed (fill ops a v ops.size) w1 := by
    intro fuel
    induction fuel with
    | zero =>
      intro listed v w1 hsz hI hc
      have hall : ∀ i, i < ops.size → listed.getD i true = true := by
        intro i hi
        cases hl : listed.getD i true with
        | true => rfl
        | false =>
          have : i ∈ (List.range ops.size).filter fun i => !listed.getD i true := List.mem_filter.2 ⟨List.mem_range.2 hi, by rw [hl]; rfl⟩
          rw [List.eq_nil_of_length_eq_zero (by omega : ((List.range ops.size).filter fun i => !listed.getD i true).length = 0)] at this
          cases this
      have hr : Region.ready .any ops listed = [] := by
        rw [List.eq_nil_iff_forall_not_mem]
        intro i hi
        obtain ⟨h1, o, ho, _⟩ := mem_ready.1 hi
        rw [hall i (Array.getElem?_eq_some_iff.1 ho).1] at h1
        cases h1
      refine ⟨hr, last _ v w1 hI fun i hi => ?_⟩
      have := hall i hi
      simpa [hsz, hi] using this
    | succ fuel ih =>
      intro listed v w1 hsz hI hc
      refine ⟨fun hr => last _ v w1 hI fun i hi => ?_, fun i hi => ?_⟩
      · have : ∀ k, k < ops.size → listed.getD k false = true := by
          intro k
          induction k using Nat.strongRecOn with
          | _ k ihk =>
            intro hk
            cases hl : listed.getD k false with
            | true => rfl
            | false =>
              exfalso
              have hmem : k ∈ Region.ready .any ops listed := mem_ready.2 ⟨by simpa [hsz, hk] using hl, ops[k], by simp [hk], fun e he hb => ihk e.on (hac2 k _ (by simp [hk]) e he hb) (by have := hac2 k _ (by simp [hk] : ops[k]? = some ops[k]) e he hb; omega)⟩
              rw [hr] at hmem
              cases hmem
        exact this i hi
      · obtain ⟨h1, o, ho, h2⟩ := mem_ready.1 hi
        have hlt : i < ops.size := (Array.getElem?_eq_some_iff.1 ho).1
        have hst := step i o ho (fun i => listed.getD i false) v w1 (wpAny P .any ops Q fuel (listed.setIfInBounds i true)) hI (by simpa [hsz, hlt] using h1) h2 (fun x w2 hI2 a2 ha2 => by
          have hso : slotOf ops i = o.dst := by unfold slotOf; rw [ho]; rfl
          rw [ha2, ← hso, fill_upd hne2 x ops.size hlt (Nat.le_refl _)]
          refine ih (listed.setIfInBounds i true) (upd v i x) w2 (by simpa using hsz) ?_ ?_
          · have he : (fun j => (listed.setIfInBounds i true).getD j false) = fun j => listed.getD j false || decide (j = i) := by
              funext j
              by_cases e : j = i
              · subst e; simp [Array.getD_eq_getD_getElem?, hsz, hlt]
              · have e2 : ¬ i = j := fun h => e h.symm
                simp [Array.getD_eq_getD_getElem?, e, e2]
            rw [he]; exact hI2
          · have hlt3 := filter_less (p := fun i => !listed.getD i true) (q := fun j => !(listed.setIfInBounds i true).getD j true) (y := i) (fun j hjq => by
              by_cases e : i = j
              · subst e; simpa using h1
              · simpa [Array.getD_eq_getD_getElem?, Array.getElem?_setIfInBounds, e] using hjq) (by simpa using h1) (by simp [Array.getD_eq_getD_getElem?, hsz, hlt]) (List.range ops.size) (List.mem_range.2 hlt)
            omega)
        unfold wpOp
        rw [ho]
        show if Region.wanted o (yielded ops (fill ops a v ops.size).tmps) = true then _ else _
        split at hst
        · rename_i hw; rw [if_pos hw]; exact .inl hst
        · rename_i hw; rw [if_neg hw]; exact hst
  have hk := key ops.size (Array.replicate ops.size false) (was ops a) w.drew (by simp) (by
    have he : (fun i => (Array.replicate ops.size false).getD i false) = fun _ => false := by
      funext i
      by_cases hlt : i < ops.size <;> simp [Array.getD_eq_getD_getElem?, hlt]
    rw [he]; exact h0) (Nat.le_trans (List.length_filter_le _ _) (by simp))
  rw [fill_was] at hk
  exact hk
end Go.Proofs.Ytpcohkhdbjimgaa
