/- A region whose operations come up in any order: walked once for each operation, not once for each order. -/
import Derived.Test.YtpcohkhdbjimgaaKitE
import Derived.Deep.RegionHeld3
namespace Go.Proofs.Ytpcohkhdbjimgaa
open Go.RowKit
set_option linter.unusedVariables false

def slotOf (ops : Array Oper) (i : Nat) : Option Tmp := (ops[i]?).bind (·.dst)
def upd (v : Nat → Value) (i : Nat) (x : Value) : Nat → Value := fun j => if j = i then x else v j
/-- a state in which the first k operations have left these values -/
def fill (ops : Array Oper) (a : Act) (v : Nat → Value) : Nat → Act
  | 0 => a
  | k + 1 => (fill ops a v k).put (slotOf ops k) (v k)
theorem put_put (a : Act) (d : Option Tmp) (x y : Value) : (a.put d x).put d y = a.put d y := by
  cases d with
  | none => rfl
  | some d => simp [Act.put]
theorem put_self (a : Act) (d : Tmp) : a.put (some d) (a.tmps.getD d undef) = a := by
  obtain ⟨t, f⟩ := a
  show (⟨t.setIfInBounds d (t.getD d undef), f⟩ : Act) = ⟨t, f⟩
  congr 1
  apply Array.ext
  · simp
  · intro i h1 h2
    rw [Array.getElem_setIfInBounds]
    split
    · rename_i e; subst e; simp [h2]
    · rfl
theorem fill_ext {ops : Array Oper} {a : Act} {v u : Nat → Value} : ∀ k, (∀ j, j < k → v j = u j) → fill ops a v k = fill ops a u k
  | 0, _ => rfl
  | k + 1, h => by rw [fill, fill, fill_ext k (fun j hj => h j (by omega)), h k (by omega)]
theorem fill_self {ops : Array Oper} {a : Act} : ∀ k, fill ops a (fun i => match slotOf ops i with | some d => a.tmps.getD d undef | none => undef) k = a
  | 0 => rfl
  | k + 1 => by
    rw [fill, fill_self k]
    cases h : slotOf ops k with
    | none => rfl
    | some d => exact put_self a d
theorem fill_upd {ops : Array Oper} {a : Act} {v : Nat → Value} {n : Nat} (hne : ∀ i j d, i < n → j < n → slotOf ops i = some d → slotOf ops j = some d → i = j) {i : Nat} (x : Value) :
    ∀ k, i < k → k ≤ n → (fill ops a v k).put (slotOf ops i) x = fill ops a (upd v i x) k
  | 0, h, _ => by omega
  | k + 1, h, hk => by
    rcases Nat.lt_or_ge i k with g | g
    · have hx : upd v i x k = v k := by unfold upd; rw [if_neg (by omega)]
      rw [fill, fill, ← fill_upd hne x k g (by omega), hx, Act.put_comm _ _ _ (fun d hd hd2 => by have := hne i k d (by omega) (by omega) hd2 hd; omega)]
    · obtain rfl : i = k := by omega
      have hx : upd v i x i = x := by unfold upd; rw [if_pos rfl]
      rw [fill, fill, put_put, hx, show fill ops a (upd v i x) i = fill ops a v i from fill_ext i (fun j hj => by unfold upd; rw [if_neg (by omega)])]

theorem filter_less {α : Type} {p q : α → Bool} (h : ∀ x, q x = true → p x = true) {y : α} (hy : p y = true) (hn : q y = false) : ∀ l : List α, y ∈ l → (l.filter q).length < (l.filter p).length
  | [], hm => by cases hm
  | x :: l, hm => by
    have hle : (l.filter q).length ≤ (l.filter p).length := by
      clear hm
      induction l with
      | nil => exact Nat.le_refl _
      | cons z l ih =>
        cases hq : q z with
        | true => rw [List.filter_cons_of_pos hq, List.filter_cons_of_pos (h z hq)]; simpa using ih
        | false =>
          rw [List.filter_cons_of_neg (by simp [hq])]
          cases hp : p z with
          | true => rw [List.filter_cons_of_pos hp, List.length_cons]; omega
          | false => rw [List.filter_cons_of_neg (by simp [hp])]; exact ih
    rcases List.mem_cons.1 hm with rfl | hm
    · rw [List.filter_cons_of_neg (by simp [hn]), List.filter_cons_of_pos hy, List.length_cons]; omega
    · have ih := filter_less h hy hn l hm
      cases hq : q x with
      | true => rw [List.filter_cons_of_pos hq, List.filter_cons_of_pos (h x hq), List.length_cons, List.length_cons]; omega
      | false =>
        rw [List.filter_cons_of_neg (by simp [hq])]
        cases hp : p x with
        | true => rw [List.filter_cons_of_pos hp, List.length_cons]; omega
        | false => rw [List.filter_cons_of_neg (by simp [hp])]; exact ih

/-- The law. J: what is held of the world all along; F i x w: what is known of operation i's value once it has come up. -/
theorem wp_region_fill {P : Program} {ops : Array Oper} {Q : Exit → Act → World → Prop} {id : Nat} {a : Act} {w : World} (hm : P.follows .mixedOrders = true)
    (hne : ((List.range ops.size).all fun i => (List.range ops.size).all fun j => decide (i = j) || (slotOf ops i == none) || !(slotOf ops i == slotOf ops j)) = true)
    (hac : ((List.range ops.size).all fun i => (ops[i]?).all fun (o : Oper) => o.after.all fun (e : Edge) => !Region.binds .any e || decide (e.on < i)) = true)
    (J : World → Prop) (F : Nat → Value → World → Prop) (hJ : J w.drew)
    (step : ∀ (i : Nat) (o : Oper), ops[i]? = some o → ∀ (v : Nat → Value) (w1 : World) (K : Act → World → Prop), J w1 → (∀ e : Edge, e ∈ o.after → Region.binds .any e = true → F e.on (v e.on) w1) →
      (∀ x w2, J w2 → F i x w2 → (∀ j y, F j y w1 → F j y w2) → ∀ a2, a2 = (fill ops a v ops.size).put o.dst x → K a2 w2) →
      if Region.wanted o (yielded ops (fill ops a v ops.size).tmps) = true then Oper.wp P o (fill ops a v ops.size) w1 K Q else K ((fill ops a v ops.size).put o.dst undef) w1)
    (last : ∀ (v : Nat → Value) (w1 : World), J w1 → (∀ i, i < ops.size → F i (v i) w1) → Q .normal (fill ops a v ops.size) w1) : (Code.region id ops true).wp P Q a w := by
  have hne2 : ∀ i j d, i < ops.size → j < ops.size → slotOf ops i = some d → slotOf ops j = some d → i = j := by
    intro i j d hi hj h1 h2
    have := List.all_eq_true.1 (List.all_eq_true.1 hne i (List.mem_range.2 hi)) j (List.mem_range.2 hj)
    rw [h1, h2] at this
    simpa using this
  have hac2 : ∀ (i : Nat) (o : Oper), ops[i]? = some o → ∀ e : Edge, e ∈ o.after → Region.binds .any e = true → e.on < i := by
    intro i o ho e he hb
    have hlt := (Array.getElem?_eq_some_iff.1 ho).1
    have := List.all_eq_true.1 hac i (List.mem_range.2 hlt)
    rw [ho] at this
    have h3 : (o.after.all fun (e : Edge) => !Region.binds .any e || decide (e.on < i)) = true := this
    have h2 := Array.all_eq_true_iff_forall_mem.1 h3 e he
    rw [hb] at h2
    simpa using h2
  refine wp_region_any hm ?_
  have key : ∀ (fuel : Nat) (listed : Array Bool) (v : Nat → Value) (w1 : World), listed.size = ops.size → J w1 → (∀ i, listed.getD i false = true → F i (v i) w1) →
      ((List.range ops.size).filter fun i => !listed.getD i true).length ≤ fuel → wpAny P .any ops Q fuel listed (fill ops a v ops.size) w1 := by
    intro fuel
    induction fuel with
    | zero =>
      intro listed v w1 hsz hj hf hc
      have hall : ∀ i, i < ops.size → listed.getD i true = true := by
        intro i hi
        cases hl : listed.getD i true with
        | true => rfl
        | false =>
          have : i ∈ (List.range ops.size).filter fun i => !listed.getD i true := List.mem_filter.2 ⟨List.mem_range.2 hi, by rw [hl]; rfl⟩
          rw [List.eq_nil_of_length_eq_zero (by omega : ((List.range ops.size).filter fun i => !listed.getD i true).length = 0)] at this
          cases this
      have hr : Region.ready .any ops listed = [] := by
        rw [List.eq_nil_iff_forall_not_mem]
        intro i hi
        obtain ⟨h1, o, ho, _⟩ := mem_ready.1 hi
        rw [hall i (Array.getElem?_eq_some_iff.1 ho).1] at h1
        cases h1
      refine ⟨hr, last v w1 hj fun i hi => hf i ?_⟩
      have := hall i hi
      simpa [hsz, hi] using this
    | succ fuel ih =>
      intro listed v w1 hsz hj hf hc
      refine ⟨fun hr => last v w1 hj fun i hi => hf i ?_, fun i hi => ?_⟩
      · have : ∀ k, k < ops.size → listed.getD k false = true := by
          intro k
          induction k using Nat.strongRecOn with
          | _ k ihk =>
            intro hk
            cases hl : listed.getD k false with
            | true => rfl
            | false =>
              exfalso
              have hmem : k ∈ Region.ready .any ops listed := mem_ready.2 ⟨by simpa [hsz, hk] using hl, ops[k], by simp [hk], fun e he hb => ihk e.on (hac2 k _ (by simp [hk]) e he hb) (by have := hac2 k _ (by simp [hk] : ops[k]? = some ops[k]) e he hb; omega)⟩
              rw [hr] at hmem
              cases hmem
        exact this i hi
      · obtain ⟨h1, o, ho, h2⟩ := mem_ready.1 hi
        have hlt : i < ops.size := (Array.getElem?_eq_some_iff.1 ho).1
        have hst := step i o ho v w1 (wpAny P .any ops Q fuel (listed.setIfInBounds i true)) hj (fun e he hb => hf e.on (h2 e he hb)) (fun x w2 hj2 hF hmono a2 ha2 => by
          have hso : slotOf ops i = o.dst := by unfold slotOf; rw [ho]; rfl
          rw [ha2, ← hso, fill_upd hne2 x ops.size hlt (Nat.le_refl _)]
          refine ih (listed.setIfInBounds i true) (upd v i x) w2 (by simpa using hsz) hj2 (fun j hjl => ?_) ?_
          · unfold upd
            by_cases e : j = i
            · rw [if_pos e, e]; exact hF
            · rw [if_neg e]
              refine hmono j _ (hf j ?_)
              have hji : ¬ i = j := fun h => e h.symm
              simpa [Array.getD_eq_getD_getElem?, Array.getElem?_setIfInBounds, hji] using hjl
          · have hlt3 := filter_less (p := fun i => !listed.getD i true) (q := fun j => !(listed.setIfInBounds i true).getD j true) (y := i) (fun j hjq => by
              by_cases e : i = j
              · subst e; simpa using h1
              · simpa [Array.getD_eq_getD_getElem?, Array.getElem?_setIfInBounds, e] using hjq) (by simpa using h1) (by simp [Array.getD_eq_getD_getElem?, hsz, hlt]) (List.range ops.size) (List.mem_range.2 hlt)
            omega)
        unfold wpOp
        rw [ho]
        show if Region.wanted o (yielded ops (fill ops a v ops.size).tmps) = true then _ else _
        split at hst
        · rename_i hw; rw [if_pos hw]; exact .inl hst
        · rename_i hw; rw [if_neg hw]; exact hst
  have h0 := key ops.size (Array.replicate ops.size false) (fun i => match slotOf ops i with | some d => a.tmps.getD d undef | none => undef) w.drew (by simp) hJ (fun i hi => by
    exfalso
    by_cases hlt : i < ops.size <;> simp [Array.getD_eq_getD_getElem?, hlt] at hi) (Nat.le_trans (List.length_filter_le _ _) (by simp))
  rw [fill_self] at h0
  exact h0

/-- The law at its widest: I L v w: what holds when the operations of L have come up and left the values v. -/
theorem wp_region_inv {P : Program} {ops : Array Oper} {Q : Exit → Act → World → Prop} {id : Nat} {a : Act} {w : World} (hm : P.follows .mixedOrders = true)
    (hne : ((List.range ops.size).all fun i => (List.range ops.size).all fun j => decide (i = j) || (slotOf ops i == none) || !(slotOf ops i == slotOf ops j)) = true)
    (hac : ((List.range ops.size).all fun i => (ops[i]?).all fun (o : Oper) => o.after.all fun (e : Edge) => !Region.binds .any e || decide (e.on < i)) = true)
    (I : (Nat → Bool) → (Nat → Value) → World → Prop) (h0 : ∀ v, I (fun _ => false) v w.drew)
    (step : ∀ (i : Nat) (o : Oper), ops[i]? = some o → ∀ (L : Nat → Bool) (v : Nat → Value) (w1 : World) (K : Act → World → Prop), I L v w1 → L i = false → (∀ e : Edge, e ∈ o.after → Region.binds .any e = true → L e.on = true) →
      (∀ x w2, I (fun j => L j || decide (j = i)) (upd v i x) w2 → ∀ a2, a2 = (fill ops a v ops.size).put o.dst x → K a2 w2) →
      if Region.wanted o (yielded ops (fill ops a v ops.size).tmps) = true then Oper.wp P o (fill ops a v ops.size) w1 K Q else K ((fill ops a v ops.size).put o.dst undef) w1)
    (last : ∀ (L : Nat → Bool) (v : Nat → Value) (w1 : World), I L v w1 → (∀ i, i < ops.size → L i = true) → Q .normal (fill ops a v ops.size) w1) : (Code.region id ops true).wp P Q a w := by
  have hne2 : ∀ i j d, i < ops.size → j < ops.size → slotOf ops i = some d → slotOf ops j = some d → i = j := by
    intro i j d hi hj h1 h2
    have := List.all_eq_true.1 (List.all_eq_true.1 hne i (List.mem_range.2 hi)) j (List.mem_range.2 hj)
    rw [h1, h2] at this
    simpa using this
  have hac2 : ∀ (i : Nat) (o : Oper), ops[i]? = some o → ∀ e : Edge, e ∈ o.after → Region.binds .any e = true → e.on < i := by
    intro i o ho e he hb
    have hlt := (Array.getElem?_eq_some_iff.1 ho).1
    have := List.all_eq_true.1 hac i (List.mem_range.2 hlt)
    rw [ho] at this
    have h3 : (o.after.all fun (e : Edge) => !Region.binds .any e || decide (e.on < i)) = true := this
    have h2 := Array.all_eq_true_iff_forall_mem.1 h3 e he
    rw [hb] at h2
    simpa using h2
  refine wp_region_any hm ?_
  have key : ∀ (fuel : Nat) (listed : Array Bool) (v : Nat → Value) (w1 : World), listed.size = ops.size → I (fun i => listed.getD i false) v w1 →
      ((List.range ops.size).filter fun i => !listed.getD i true).length ≤ fuel → wpAny P .any ops Q fuel listed (fill ops a v ops.size) w1 := by
    intro fuel
    induction fuel with
    | zero =>
      intro listed v w1 hsz hI hc
      have hall : ∀ i, i < ops.size → listed.getD i true = true := by
        intro i hi
        cases hl : listed.getD i true with
        | true => rfl
        | false =>
          have : i ∈ (List.range ops.size).filter fun i => !listed.getD i true := List.mem_filter.2 ⟨List.mem_range.2 hi, by rw [hl]; rfl⟩
          rw [List.eq_nil_of_length_eq_zero (by omega : ((List.range ops.size).filter fun i => !listed.getD i true).length = 0)] at this
          cases this
      have hr : Region.ready .any ops listed = [] := by
        rw [List.eq_nil_iff_forall_not_mem]
        intro i hi
        obtain ⟨h1, o, ho, _⟩ := mem_ready.1 hi
        rw [hall i (Array.getElem?_eq_some_iff.1 ho).1] at h1
        cases h1
      refine ⟨hr, last _ v w1 hI fun i hi => ?_⟩
      have := hall i hi
      simpa [hsz, hi] using this
    | succ fuel ih =>
      intro listed v w1 hsz hI hc
      refine ⟨fun hr => last _ v w1 hI fun i hi => ?_, fun i hi => ?_⟩
      · have : ∀ k, k < ops.size → listed.getD k false = true := by
          intro k
          induction k using Nat.strongRecOn with
          | _ k ihk =>
            intro hk
            cases hl : listed.getD k false with
            | true => rfl
            | false =>
              exfalso
              have hmem : k ∈ Region.ready .any ops listed := mem_ready.2 ⟨by simpa [hsz, hk] using hl, ops[k], by simp [hk], fun e he hb => ihk e.on (hac2 k _ (by simp [hk]) e he hb) (by have := hac2 k _ (by simp [hk] : ops[k]? = some ops[k]) e he hb; omega)⟩
              rw [hr] at hmem
              cases hmem
        exact this i hi
      · obtain ⟨h1, o, ho, h2⟩ := mem_ready.1 hi
        have hlt : i < ops.size := (Array.getElem?_eq_some_iff.1 ho).1
        have hst := step i o ho (fun i => listed.getD i false) v w1 (wpAny P .any ops Q fuel (listed.setIfInBounds i true)) hI (by simpa [hsz, hlt] using h1) h2 (fun x w2 hI2 a2 ha2 => by
          have hso : slotOf ops i = o.dst := by unfold slotOf; rw [ho]; rfl
          rw [ha2, ← hso, fill_upd hne2 x ops.size hlt (Nat.le_refl _)]
          refine ih (listed.setIfInBounds i true) (upd v i x) w2 (by simpa using hsz) ?_ ?_
          · have he : (fun j => (listed.setIfInBounds i true).getD j false) = fun j => listed.getD j false || decide (j = i) := by
              funext j
              by_cases e : j = i
              · subst e; simp [Array.getD_eq_getD_getElem?, hsz, hlt]
              · have e2 : ¬ i = j := fun h => e h.symm
                simp [Array.getD_eq_getD_getElem?, e, e2]
            rw [he]; exact hI2
          · have hlt3 := filter_less (p := fun i => !listed.getD i true) (q := fun j => !(listed.setIfInBounds i true).getD j true) (y := i) (fun j hjq => by
              by_cases e : i = j
              · subst e; simpa using h1
              · simpa [Array.getD_eq_getD_getElem?, Array.getElem?_setIfInBounds, e] using hjq) (by simpa using h1) (by simp [Array.getD_eq_getD_getElem?, hsz, hlt]) (List.range ops.size) (List.mem_range.2 hlt)
            omega)
        unfold wpOp
        rw [ho]
        show if Region.wanted o (yielded ops (fill ops a v ops.size).tmps) = true then _ else _
        split at hst
        · rename_i hw; rw [if_pos hw]; exact .inl hst
        · rename_i hw; rw [if_neg hw]; exact hst
  have hk := key ops.size (Array.replicate ops.size false) (fun i => match slotOf ops i with | some d => a.tmps.getD d undef | none => undef) w.drew (by simp) (by
    have he : (fun i => (Array.replicate ops.size false).getD i false) = fun _ => false := by
      funext i
      by_cases hlt : i < ops.size <;> simp [Array.getD_eq_getD_getElem?, hlt]
    rw [he]; exact h0 _) (Nat.le_trans (List.length_filter_le _ _) (by simp))
  rw [fill_self] at hk
  exact hk
end Go.Proofs.Ytpcohkhdbjimgaa
