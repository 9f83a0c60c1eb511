/- What holds of every store that calls have made, plainly. -/
import Derived.Test.YtjafagfhkpaciaaStoDo2
namespace Go.Proofs.Ytjafagfhkpaciaa
open Go.RowKit
set_option linter.unusedVariables false

section
variable {κ α : Type} {lit : κ → Lit}
/-- keys that are told apart -/
structure LitOk (lit : κ → Lit) : Prop where
  inj : ∀ {i j}, lit i = lit j → i = j
  same : ∀ k, (lit k).sameKey (lit k) = true
theorem LitOk.iff (h : LitOk lit) (i j : κ) : (lit i).sameKey (lit j) = true ↔ i = j :=
  ⟨fun e => h.inj (WideAt.sameKey_eq e), fun e => by rw [e]; exact h.same j⟩
theorem get_ins_same (h : LitOk lit) {k : κ} {a : α} : ∀ {l : List (κ × α)}, (∀ p ∈ l, p.1 ≠ k) → getK lit k (insK lit (k, a) l) = some a
  | [], _ => by unfold insK getK; rw [List.find?_cons, show ((lit (k, a).1).sameKey (lit k)) = true from h.same k]; rfl
  | y :: r, hn => by
    unfold insK
    split
    · unfold getK; rw [List.find?_cons, show ((lit (k, a).1).sameKey (lit k)) = true from h.same k]; rfl
    · have h1 : (lit y.1).sameKey (lit k) = false := by
        rw [Bool.eq_false_iff]; intro e; exact hn y (List.mem_cons_self ..) ((h.iff _ _).1 e)
      have h2 := get_ins_same h (a := a) (l := r) (fun p hp => hn p (List.mem_cons_of_mem _ hp))
      unfold getK at h2 ⊢
      rw [List.find?_cons, h1]
      exact h2
theorem get_ins_ne (h : LitOk lit) {k j : κ} {a : α} (hne : j ≠ k) : ∀ {l : List (κ × α)}, getK lit j (insK lit (k, a) l) = getK lit j l
  | [] => by
    have h1 : (lit k).sameKey (lit j) = false := by rw [Bool.eq_false_iff]; intro e; exact hne ((h.iff _ _).1 e).symm
    unfold insK getK
    rw [List.find?_cons, show ((lit (k, a).1).sameKey (lit j)) = false from h1]
  | y :: r => by
    have h1 : (lit k).sameKey (lit j) = false := by rw [Bool.eq_false_iff]; intro e; exact hne ((h.iff _ _).1 e).symm
    unfold insK
    split
    · unfold getK; rw [List.find?_cons, show ((lit (k, a).1).sameKey (lit j)) = false from h1]
    · have h2 := get_ins_ne h (a := a) hne (l := r)
      unfold getK at h2 ⊢
      rw [List.find?_cons, List.find?_cons]
      split
      · rfl
      · exact h2
theorem mem_drop {k : κ} {l : List (κ × α)} {p : κ × α} (hm : p ∈ dropK lit k l) : p ∈ l := (List.mem_filter.1 hm).1
theorem drop_ne (h : LitOk lit) {k : κ} {l : List (κ × α)} {p : κ × α} (hm : p ∈ dropK lit k l) : p.1 ≠ k := fun e => by
  have h1 := (List.mem_filter.1 hm).2
  rw [(h.iff _ _).2 e] at h1
  cases h1
theorem get_drop_ne (h : LitOk lit) {k j : κ} (hne : j ≠ k) : ∀ {l : List (κ × α)}, getK lit j (dropK lit k l) = getK lit j l
  | [] => rfl
  | y :: r => by
    have h2 := get_drop_ne h hne (l := r)
    unfold dropK getK at h2 ⊢
    rw [List.filter_cons]
    cases hy : (lit y.1).sameKey (lit k) with
    | false =>
      rw [if_pos (by simp), List.find?_cons, List.find?_cons]
      split
      · rfl
      · exact h2
    | true =>
      have e := (h.iff _ _).1 hy
      have h3 : (lit y.1).sameKey (lit j) = false := by rw [Bool.eq_false_iff]; intro g; exact hne (((h.iff _ _).1 g).symm.trans e)
      rw [if_neg (by simp), List.find?_cons, h3]
      exact h2
theorem get_drop_same (h : LitOk lit) {k : κ} {l : List (κ × α)} : getK lit k (dropK lit k l) = none := by
  unfold getK
  rw [Option.map_eq_none_iff, List.find?_eq_none]
  intro p hp e
  exact drop_ne h hp ((h.iff _ _).1 e)
theorem get_put_same (h : LitOk lit) {k : κ} {a : α} {l : List (κ × α)} : getK lit k (putK lit k a l) = some a :=
  get_ins_same h fun p hp => drop_ne h hp
theorem get_put_ne (h : LitOk lit) {k j : κ} {a : α} (hne : j ≠ k) {l : List (κ × α)} : getK lit j (putK lit k a l) = getK lit j l :=
  (get_ins_ne h hne).trans (get_drop_ne h hne)
theorem get_none (h : LitOk lit) {k : κ} {l : List (κ × α)} : getK lit k l = none ↔ ∀ p ∈ l, p.1 ≠ k := by
  unfold getK
  rw [Option.map_eq_none_iff, List.find?_eq_none]
  exact ⟨fun g p hp e => g p hp ((h.iff _ _).2 e), fun g p hp e => g p hp ((h.iff _ _).1 e)⟩
theorem drop_id (h : LitOk lit) {k : κ} {l : List (κ × α)} (hg : getK lit k l = none) : dropK lit k l = l := by
  unfold dropK
  rw [List.filter_eq_self]
  intro p hp
  rw [Bool.not_eq_true', Bool.eq_false_iff]
  intro e
  exact (get_none h).1 hg p hp ((h.iff _ _).1 e)
theorem ins_len (x : κ × α) : ∀ l : List (κ × α), (insK lit x l).length = l.length + 1
  | [] => rfl
  | y :: r => by
    unfold insK
    split
    · rfl
    · rw [List.length_cons, ins_len x r, List.length_cons]
theorem tot_ins (g : α → Nat) (x : κ × α) : ∀ l : List (κ × α), totK g (insK lit x l) = totK g l + g x.2
  | [] => by simp [insK, totK]
  | y :: r => by
    have ih := tot_ins g x r
    unfold totK at ih ⊢
    unfold insK
    split
    · simp only [List.map_cons, List.sum_cons]; omega
    · simp only [List.map_cons, List.sum_cons, ih]; omega
def gotN (g : α → Nat) : Option α → Nat
  | some a => g a
  | none => 0
theorem drop_tot (h : LitOk lit) (g : α → Nat) {k : κ} : ∀ {l : List (κ × α)}, l.Pairwise (fun p q => lit p.1 ≠ lit q.1) → totK g (dropK lit k l) + gotN g (getK lit k l) = totK g l ∧ (dropK lit k l).length + (if (getK lit k l).isSome = true then 1 else 0) = l.length
  | [], _ => ⟨rfl, rfl⟩
  | y :: r, hp => by
    obtain ⟨h1, h2⟩ := List.pairwise_cons.1 hp
    obtain ⟨ih1, ih2⟩ := drop_tot h g (k := k) h2
    cases hy : (lit y.1).sameKey (lit k) with
    | false =>
      have e1 : dropK lit k (y :: r) = y :: dropK lit k r := by unfold dropK; rw [List.filter_cons, if_pos (by simp [hy])]
      have e2 : getK lit k (y :: r) = getK lit k r := by unfold getK; rw [List.find?_cons, hy]
      rw [e1, e2]
      unfold totK at ih1 ⊢
      simp only [List.map_cons, List.sum_cons, List.length_cons]
      exact ⟨by omega, by omega⟩
    | true =>
      have e := (h.iff _ _).1 hy
      have hn : getK lit k r = none := (get_none h).2 fun p hp' e' => h1 p hp' (by rw [e, e'])
      have e1 : dropK lit k (y :: r) = r := by
        have := drop_id h hn
        unfold dropK at this ⊢
        rw [List.filter_cons, if_neg (by simp [hy]), this]
      have e2 : getK lit k (y :: r) = some y.2 := by unfold getK; rw [List.find?_cons, hy]; rfl
      rw [e1, e2]
      unfold totK
      simp only [List.map_cons, List.sum_cons, List.length_cons, gotN, Option.isSome_some, if_pos]
      exact ⟨by omega, trivial⟩
theorem put_tot (h : LitOk lit) (g : α → Nat) {k : κ} {a : α} {l : List (κ × α)} (hp : l.Pairwise (fun p q => lit p.1 ≠ lit q.1)) : totK g (putK lit k a l) + gotN g (getK lit k l) = totK g l + g a := by
  have h1 := (drop_tot h g (k := k) hp).1
  unfold putK
  rw [tot_ins]
  show totK g (dropK lit k l) + g a + _ = _
  omega
theorem put_len (h : LitOk lit) {k : κ} {a : α} {l : List (κ × α)} (hp : l.Pairwise (fun p q => lit p.1 ≠ lit q.1)) : (putK lit k a l).length + (if (getK lit k l).isSome = true then 1 else 0) = l.length + 1 := by
  have h1 := (drop_tot h (fun _ => 0) (k := k) hp).2
  unfold putK
  rw [ins_len]
  omega
end
theorem litS : LitOk slit := ⟨slit_inj, fun k => by simp [slit, Lit.sameKey]⟩
theorem litI : LitOk ilit := ⟨ilit_inj, fun k => by simp [ilit, Lit.sameKey]⟩
/-- numbers that rise within bounds are few -/
theorem rise_len : ∀ (l : List Int) (a : Int), l.Pairwise (· < ·) → (∀ x ∈ l, a ≤ x ∧ x ≤ 32) → (l.length : Int) ≤ max 0 (33 - a)
  | [], a, _, _ => by simp; omega
  | x :: r, a, hp, hb => by
    obtain ⟨h1, h2⟩ := List.pairwise_cons.1 hp
    have hx := hb x (List.mem_cons_self ..)
    have := rise_len r (x + 1) h2 fun y hy => ⟨h1 y hy, (hb y (List.mem_cons_of_mem _ hy)).2⟩
    rw [List.length_cons]
    omega
def oSz (o : ObjS) : Nat := o.data.size
def uSz (u : UplS) : Nat := psz u.parts
/-- a store as calls make it -/
structure Inv (σ : Sto) : Prop where
  ver : 0 ≤ σ.ver
  id : 0 ≤ σ.id
  now : 0 ≤ σ.now
  siz : σ.size ≤ 4194304
  tot : σ.size = ((totK oSz σ.objs : Nat) : Int) + ((totK uSz σ.ups : Nat) : Int)
  nob : σ.objs.length ≤ 512
  nup : σ.ups.length ≤ 512
  obj : ∀ p ∈ σ.objs, isKeyB p.1 = true ∧ p.2.data.size ≤ 262144 ∧ 1 ≤ p.2.ver ∧ p.2.ver ≤ σ.ver ∧ 0 ≤ p.2.born ∧ p.2.born ≤ σ.now
  upl : ∀ p ∈ σ.ups, 1 ≤ p.1 ∧ p.1 ≤ σ.id ∧ isKeyB p.2.key = true ∧ 0 ≤ p.2.born ∧ p.2.born ≤ σ.now ∧ p.2.parts.length ≤ 32
  prt : ∀ p ∈ σ.ups, ∀ x ∈ p.2.parts, 1 ≤ x.1 ∧ x.1 ≤ 32 ∧ x.2.size ≤ 262144
/-- the lists of a store that lies in memory are told apart -/
structure Apt (σ : Sto) : Prop where
  obj : σ.objs.Pairwise fun p q => slit p.1 ≠ slit q.1
  upl : σ.ups.Pairwise fun p q => ilit p.1 ≠ ilit q.1
  prt : ∀ p ∈ σ.ups, p.2.parts.Pairwise fun x y => (ilit x.1).before (ilit y.1) = true
theorem inv0 : Inv (sto0 0) := ⟨by decide, by decide, by decide, by decide, by decide, by decide, by decide, (fun p hp => by cases hp), (fun p hp => by cases hp), (fun p hp => by cases hp)⟩
theorem Inv.ok {σ : Sto} (h : Inv σ) (hv : σ.ver ≤ 1000000000) (hi : σ.id ≤ 1000000000) : OkS σ where
  ver := ⟨h.ver, hv⟩
  id := ⟨h.id, hi⟩
  siz := ⟨by rw [h.tot]; omega, h.siz⟩
  nob := h.nob
  old := fun k => by
    unfold oldLen
    cases hk : objOf σ k with
    | none => exact Nat.zero_le _
    | some o => exact (h.obj _ (get_mem (slit_inj) hk)).2.1
  upl := ⟨fun p hp x hx => ⟨(h.prt p hp x hx).1, (h.prt p hp x hx).2.1⟩, fun p hp => by
    have h1 : psz p.2.parts ≤ totK uSz σ.ups := tot_mem uSz hp
    have h2 := h.siz
    have h3 := h.tot
    omega, fun p hp => (h.upl p hp).2.2.2.2.2⟩
  usz := fun p hp => by
    have h1 : psz p.2.parts ≤ totK uSz σ.ups := tot_mem uSz hp
    have h3 := h.tot
    omega
  uky := fun p hp => by
    have h1 := (h.upl p hp).2.2.1
    unfold isKeyB at h1
    simp only [Bool.and_eq_true, decide_eq_true_eq] at h1
    exact h1.1.2
theorem got_old (σ : Sto) (k : ByteArray) : gotN oSz (getK slit k σ.objs) = oldLen σ k := by
  unfold oldLen objOf
  cases getK slit k σ.objs <;> rfl
theorem Inv.make {σ : Sto} (h : Inv σ) (ha : Apt σ) {k d : ByteArray} (hk : isKeyB k = true) (hd : d.size ≤ 262144) (hn : (objOf σ k).isNone = true → σ.objs.length < 512) (hz : σ.size + ((d.size : Int) - (oldLen σ k : Int)) ≤ 4194304) : Inv (makeS σ k d) where
  ver := by have := h.ver; unfold makeS; simp only; omega
  id := h.id
  now := h.now
  siz := hz
  tot := by
    have h1 := put_tot litS oSz (k := k) (a := ⟨d, σ.ver + 1, σ.now⟩) ha.obj
    rw [got_old] at h1
    have h2 := h.tot
    unfold makeS
    simp only
    unfold oSz at h1 h2 ⊢
    simp only at h1
    omega
  nob := by
    have h1 := put_len litS (k := k) (a := (⟨d, σ.ver + 1, σ.now⟩ : ObjS)) ha.obj
    have h2 := h.nob
    unfold makeS
    simp only
    unfold objOf at hn
    cases hg : getK slit k σ.objs with
    | none => have := hn (by rw [hg]; rfl); rw [hg] at h1; simp at h1; omega
    | some o => rw [hg] at h1; simp at h1; omega
  nup := h.nup
  obj := fun p hp => by
    have hv := h.ver
    have hw := h.now
    rcases mem_put hp with rfl | g
    · exact ⟨hk, hd, by show 1 ≤ σ.ver + 1; omega, Int.le_refl _, hw, Int.le_refl _⟩
    · obtain ⟨q1, q2, q3, q4, q5, q6⟩ := h.obj p g
      exact ⟨q1, q2, q3, by unfold makeS; simp only; omega, q5, q6⟩
  upl := h.upl
  prt := h.prt
theorem Inv.create {σ : Sto} (h : Inv σ) (ha : Apt σ) {k : ByteArray} {pb : Nat} (hk : isKeyB k = true) (hn : σ.ups.length < 512) : Inv (createS σ k pb) where
  ver := h.ver
  id := by have := h.id; unfold createS; simp only; omega
  now := h.now
  siz := h.siz
  tot := by
    have hno : getK ilit (σ.id + 1) σ.ups = none := (get_none litI).2 fun p hp e => by have := (h.upl p hp).2.1; omega
    have h1 := put_tot litI uSz (k := σ.id + 1) (a := (⟨k, σ.now, pb, []⟩ : UplS)) ha.upl
    rw [hno] at h1
    have h2 := h.tot
    unfold createS
    simp only
    have h3 : uSz (⟨k, σ.now, pb, []⟩ : UplS) = 0 := rfl
    rw [h3] at h1
    simp only [gotN] at h1
    omega
  nob := h.nob
  nup := by
    have h1 := put_len litI (k := σ.id + 1) (a := (⟨k, σ.now, pb, []⟩ : UplS)) ha.upl
    unfold createS
    simp only
    omega
  obj := h.obj
  upl := fun p hp => by
    have hi := h.id
    have hw := h.now
    rcases mem_put hp with rfl | g
    · exact ⟨by show 1 ≤ σ.id + 1; omega, Int.le_refl _, hk, hw, Int.le_refl _, Nat.zero_le _⟩
    · obtain ⟨q1, q2, q3, q4, q5, q6⟩ := h.upl p g
      exact ⟨q1, by unfold createS; simp only; omega, q3, q4, q5, q6⟩
  prt := fun p hp x hx => by
    rcases mem_put hp with rfl | g
    · cases hx
    · exact h.prt p g x hx
theorem tot_cons {κ α : Type} (g : α → Nat) (y : κ × α) (r : List (κ × α)) : totK g (y :: r) = g y.2 + totK g r := by unfold totK; rw [List.map_cons, List.sum_cons]
theorem set_tot (i : Int) (ps : List (Int × ByteArray)) : ∀ {l : List (Int × UplS)}, l.Pairwise (fun p q => ilit p.1 ≠ ilit q.1) → ∀ {u : UplS}, (i, u) ∈ l → totK uSz (setParts i ps l) + psz u.parts = totK uSz l + psz ps
  | [], _, u, hu => by cases hu
  | y :: r, hp, u, hu => by
    obtain ⟨h1, h2⟩ := List.pairwise_cons.1 hp
    rcases List.mem_cons.1 hu with e | g
    · subst e
      have e2 : setParts i ps r = r := by
        unfold setParts
        refine (List.map_congr_left (g := id) fun p hp' => ?_).trans (List.map_id _)
        rw [if_neg (fun e => h1 p hp' (by rw [e]))]
        rfl
      have e3 : setParts i ps ((i, u) :: r) = (i, { u with parts := ps }) :: setParts i ps r := by
        unfold setParts
        rw [List.map_cons, if_pos rfl]
      rw [e3, e2, tot_cons, tot_cons]
      show psz ps + _ + _ = psz u.parts + _ + _
      omega
    · have ih := set_tot i ps h2 g
      have e3 : setParts i ps (y :: r) = y :: setParts i ps r := by
        unfold setParts
        rw [List.map_cons, if_neg (fun e => h1 (i, u) g (by rw [e]))]
      rw [e3, tot_cons, tot_cons]
      omega
theorem got_oldP (u : UplS) (n : Int) : gotN (fun d : ByteArray => d.size) (getK ilit n u.parts) = oldP u n := by
  unfold oldP
  cases getK ilit n u.parts <;> rfl
theorem rise_apart {κ α : Type} {lit : κ → Lit} (h0 : ∀ k, (lit k).before (lit k) = false) {l : List (κ × α)} (h : l.Pairwise fun x y => (lit x.1).before (lit y.1) = true) : l.Pairwise fun x y => lit x.1 ≠ lit y.1 :=
  h.imp fun {x y} hb e => by rw [e, h0] at hb; cases hb
theorem before_int (k : Int) : (ilit k).before (ilit k) = false := by simp [ilit, Lit.before]
theorem ins_rise {x : Int × ByteArray} : ∀ {l : List (Int × ByteArray)}, l.Pairwise (fun p q => (ilit p.1).before (ilit q.1) = true) → (∀ p ∈ l, p.1 ≠ x.1) → (insK ilit x l).Pairwise fun p q => (ilit p.1).before (ilit q.1) = true
  | [], _, _ => List.pairwise_singleton _ _
  | y :: r, hp, hn => by
    obtain ⟨h1, h2⟩ := List.pairwise_cons.1 hp
    unfold insK
    split
    · rename_i hb
      refine List.pairwise_cons.2 ⟨fun p hp' => ?_, hp⟩
      rcases List.mem_cons.1 hp' with rfl | g
      · exact hb
      · have := h1 p g
        simp only [ilit, Lit.before, decide_eq_true_eq] at *
        omega
    · rename_i hb
      refine List.pairwise_cons.2 ⟨fun p hp' => ?_, ins_rise h2 fun p hp' => hn p (List.mem_cons_of_mem _ hp')⟩
      rcases mem_ins hp' with rfl | g
      · have := hn y (List.mem_cons_self ..)
        simp only [ilit, Lit.before, decide_eq_true_eq] at *
        omega
      · exact h1 p g
theorem put_rise {n : Int} {d : ByteArray} {l : List (Int × ByteArray)} (h : l.Pairwise fun p q => (ilit p.1).before (ilit q.1) = true) : (putK ilit n d l).Pairwise fun p q => (ilit p.1).before (ilit q.1) = true :=
  ins_rise (h.filter _) fun p hp => drop_ne litI hp
theorem rise_ints {l : List (Int × ByteArray)} (h : l.Pairwise fun p q => (ilit p.1).before (ilit q.1) = true) : (l.map (·.1)).Pairwise (· < ·) :=
  List.pairwise_map.2 (h.imp fun {p q} hb => by simpa [ilit, Lit.before] using hb)
theorem Inv.part {σ : Sto} (h : Inv σ) (ha : Apt σ) {i n : Int} {u : UplS} {d : ByteArray} (hu : upOf σ i = some u) (hn : 1 ≤ n ∧ n ≤ 32) (hd : d.size ≤ 262144) (hz : σ.size + ((d.size : Int) - (oldP u n : Int)) ≤ 4194304) : Inv (partS σ i u n d) := by
  have hm : (i, u) ∈ σ.ups := get_mem ilit_inj hu
  have hr := ha.prt _ hm
  have hput : ∀ x ∈ putK ilit n d u.parts, 1 ≤ x.1 ∧ x.1 ≤ 32 ∧ x.2.size ≤ 262144 := fun x hx => by
    rcases mem_put hx with rfl | g
    · exact ⟨hn.1, hn.2, hd⟩
    · exact h.prt _ hm x g
  refine ⟨h.ver, h.id, h.now, hz, ?_, h.nob, ?_, h.obj, ?_, ?_⟩
  · have h1 := set_tot i (putK ilit n d u.parts) ha.upl hm
    have h2 := put_tot litI (fun d : ByteArray => d.size) (k := n) (a := d) (rise_apart before_int hr)
    rw [got_oldP] at h2
    have h3 := h.tot
    unfold psz at h1
    unfold partS
    simp only
    simp only at h2
    omega
  · unfold partS setParts
    simp only
    rw [List.length_map]
    exact h.nup
  · intro p hp
    obtain ⟨q, hq, e1, e2, e3, e4, e5⟩ := mem_setParts hp
    obtain ⟨r1, r2, r3, r4, r5, r6⟩ := h.upl q hq
    rw [e1, e3, e4]
    refine ⟨r1, r2, r3, r4, r5, ?_⟩
    rcases e5 with ⟨_, e⟩ | ⟨_, e⟩
    · rw [e]
      have h1 := rise_len _ 1 (rise_ints (put_rise hr)) (fun x hx => by
        obtain ⟨y, hy, rfl⟩ := List.mem_map.1 hx
        exact ⟨(hput y hy).1, (hput y hy).2.1⟩)
      rw [List.length_map] at h1
      have h2 : max 0 ((33 : Int) - 1) = 32 := by decide
      rw [h2] at h1
      exact Int.ofNat_le.1 h1
    · rw [e]; exact r6
  · intro p hp x hx
    obtain ⟨q, hq, e1, e2, e3, e4, e5⟩ := mem_setParts hp
    rcases e5 with ⟨_, e⟩ | ⟨_, e⟩
    · rw [e] at hx; exact hput x hx
    · rw [e] at hx; exact h.prt q hq x hx
theorem Inv.drop {σ : Sto} (h : Inv σ) (ha : Apt σ) {i : Int} {u : UplS} (hu : upOf σ i = some u) : Inv (dropS σ i (psz u.parts)) := by
  have h1 := drop_tot litI uSz (k := i) ha.upl
  have hg : getK ilit i σ.ups = some u := hu
  rw [hg] at h1
  have h2 := h.tot
  have h3 := h.siz
  have h4 := h.nup
  simp only [gotN, Option.isSome_some, if_pos] at h1
  have h5 : uSz u = psz u.parts := rfl
  rw [h5] at h1
  refine ⟨h.ver, h.id, h.now, ?_, ?_, h.nob, ?_, h.obj, fun p hp => h.upl p (mem_drop hp), fun p hp => h.prt p (mem_drop hp)⟩
  · unfold dropS; simp only; omega
  · unfold dropS; simp only; omega
  · unfold dropS; simp only; omega
theorem Apt.of {w : World} {s Mo Mu : Nat} {σ : Sto} (h : SAt w s Mo Mu σ) : Apt σ := by
  rcases h with h | ⟨_, e, _⟩
  · refine ⟨h.obj.apart, h.upl.apart, fun p hp => ?_⟩
    have hg := h.prt p hp
    obtain ⟨es, he, hpw, _⟩ := World.ownsMap.canon hg TP.K
    have e1 : es = encK ilit prtC p.2.parts := by cases he; rfl
    rw [e1] at hpw
    unfold encK at hpw
    exact (List.pairwise_map (f := fun p : Int × ByteArray => (ilit p.1, (DataW.held (prtC p.2) : DataW Value))) (R := fun p q => p.1.before q.1 = true)).1 hpw
  · rw [e]
    exact ⟨List.Pairwise.nil, List.Pairwise.nil, fun p hp => by cases hp⟩
end Go.Proofs.Ytjafagfhkpaciaa
