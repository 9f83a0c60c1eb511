/- Ordered lists of keys and things, plainly: looked up, put, dropped. (Out of XStoInv, XStoAbt, XStoCre, XStoPgL, XStoKeys.) -/
import Derived.Test.YtpcohkhdbjimgaaByK
import Derived.Test.YtpcohkhdbjimgaaGmR
namespace Go.Proofs.Ytpcohkhdbjimgaa
open Go.RowKit Go.Maps
set_option linter.unusedVariables false

theorem slit_inj {x y : ByteArray} (h : slit x = slit y) : x = y := by
  unfold slit at h
  have h1 : x.data.toList = y.data.toList := by simpa using h
  cases x; cases y
  congr 1
  exact Array.toList_inj.1 h1
theorem get_mem {κ α : Type} {lit : κ → Lit} (hinj : ∀ {i j}, lit i = lit j → i = j) {l : List (κ × α)} {k : κ} {a : α} (h : getK lit k l = some a) : (k, a) ∈ l := by
  unfold getK at h
  obtain ⟨q, hq, rfl⟩ := Option.map_eq_some_iff.1 h
  have hs := List.find?_some hq
  have he := hinj (WideAt.sameKey_eq hs)
  rw [← he]
  exact List.mem_of_find?_eq_some hq
theorem mem_ins {κ α : Type} {lit : κ → Lit} {x p : κ × α} : ∀ {l : List (κ × α)}, p ∈ insK lit x l → p = x ∨ p ∈ l
  | [], h => by unfold insK at h; exact .inl (List.mem_singleton.1 h)
  | y :: r, h => by
    unfold insK at h
    split at h
    · rcases List.mem_cons.1 h with g | g
      · exact .inl g
      · exact .inr g
    · rcases List.mem_cons.1 h with g | g
      · exact .inr (by rw [g]; simp)
      · rcases mem_ins g with e | e
        · exact .inl e
        · exact .inr (List.mem_cons_of_mem _ e)
theorem mem_put {κ α : Type} {lit : κ → Lit} {k : κ} {a : α} {l : List (κ × α)} {p : κ × α} (h : p ∈ putK lit k a l) : p = (k, a) ∨ p ∈ l := by
  rcases mem_ins h with e | e
  · exact .inl e
  · exact .inr (List.mem_filter.1 e).1
section
variable {κ α : Type} {lit : κ → Lit}
/-- keys that are told apart -/
structure LitOk (lit : κ → Lit) : Prop where
  inj : ∀ {i j}, lit i = lit j → i = j
  same : ∀ k, (lit k).sameKey (lit k) = true
theorem LitOk.iff (h : LitOk lit) (i j : κ) : (lit i).sameKey (lit j) = true ↔ i = j :=
  ⟨fun e => h.inj (WideAt.sameKey_eq e), fun e => by rw [e]; exact h.same j⟩
theorem get_ins_same (h : LitOk lit) {k : κ} {a : α} : ∀ {l : List (κ × α)}, (∀ p ∈ l, p.1 ≠ k) → getK lit k (insK lit (k, a) l) = some a
  | [], _ => by unfold insK getK; rw [List.find?_cons, show ((lit (k, a).1).sameKey (lit k)) = true from h.same k]; rfl
  | y :: r, hn => by
    unfold insK
    split
    · unfold getK; rw [List.find?_cons, show ((lit (k, a).1).sameKey (lit k)) = true from h.same k]; rfl
    · have h1 : (lit y.1).sameKey (lit k) = false := by
        rw [Bool.eq_false_iff]; intro e; exact hn y (List.mem_cons_self ..) ((h.iff _ _).1 e)
      have h2 := get_ins_same h (a := a) (l := r) (fun p hp => hn p (List.mem_cons_of_mem _ hp))
      unfold getK at h2 ⊢
      rw [List.find?_cons, h1]
      exact h2
theorem get_ins_ne (h : LitOk lit) {k j : κ} {a : α} (hne : j ≠ k) : ∀ {l : List (κ × α)}, getK lit j (insK lit (k, a) l) = getK lit j l
  | [] => by
    have h1 : (lit k).sameKey (lit j) = false := by rw [Bool.eq_false_iff]; intro e; exact hne ((h.iff _ _).1 e).symm
    unfold insK getK
    rw [List.find?_cons, show ((lit (k, a).1).sameKey (lit j)) = false from h1]
  | y :: r => by
    have h1 : (lit k).sameKey (lit j) = false := by rw [Bool.eq_false_iff]; intro e; exact hne ((h.iff _ _).1 e).symm
    unfold insK
    split
    · unfold getK; rw [List.find?_cons, show ((lit (k, a).1).sameKey (lit j)) = false from h1]
    · have h2 := get_ins_ne h (a := a) hne (l := r)
      unfold getK at h2 ⊢
      rw [List.find?_cons, List.find?_cons]
      split
      · rfl
      · exact h2
theorem mem_drop {k : κ} {l : List (κ × α)} {p : κ × α} (hm : p ∈ dropK lit k l) : p ∈ l := (List.mem_filter.1 hm).1
theorem drop_ne (h : LitOk lit) {k : κ} {l : List (κ × α)} {p : κ × α} (hm : p ∈ dropK lit k l) : p.1 ≠ k := fun e => by
  have h1 := (List.mem_filter.1 hm).2
  rw [(h.iff _ _).2 e] at h1
  cases h1
theorem get_drop_ne (h : LitOk lit) {k j : κ} (hne : j ≠ k) : ∀ {l : List (κ × α)}, getK lit j (dropK lit k l) = getK lit j l
  | [] => rfl
  | y :: r => by
    have h2 := get_drop_ne h hne (l := r)
    unfold dropK getK at h2 ⊢
    rw [List.filter_cons]
    cases hy : (lit y.1).sameKey (lit k) with
    | false =>
      rw [if_pos (by simp), List.find?_cons, List.find?_cons]
      split
      · rfl
      · exact h2
    | true =>
      have e := (h.iff _ _).1 hy
      have h3 : (lit y.1).sameKey (lit j) = false := by rw [Bool.eq_false_iff]; intro g; exact hne (((h.iff _ _).1 g).symm.trans e)
      rw [if_neg (by simp), List.find?_cons, h3]
      exact h2
theorem get_drop_same (h : LitOk lit) {k : κ} {l : List (κ × α)} : getK lit k (dropK lit k l) = none := by
  unfold getK
  rw [Option.map_eq_none_iff, List.find?_eq_none]
  intro p hp e
  exact drop_ne h hp ((h.iff _ _).1 e)
theorem get_put_same (h : LitOk lit) {k : κ} {a : α} {l : List (κ × α)} : getK lit k (putK lit k a l) = some a :=
  get_ins_same h fun p hp => drop_ne h hp
theorem get_put_ne (h : LitOk lit) {k j : κ} {a : α} (hne : j ≠ k) {l : List (κ × α)} : getK lit j (putK lit k a l) = getK lit j l :=
  (get_ins_ne h hne).trans (get_drop_ne h hne)
theorem get_none (h : LitOk lit) {k : κ} {l : List (κ × α)} : getK lit k l = none ↔ ∀ p ∈ l, p.1 ≠ k := by
  unfold getK
  rw [Option.map_eq_none_iff, List.find?_eq_none]
  exact ⟨fun g p hp e => g p hp ((h.iff _ _).2 e), fun g p hp e => g p hp ((h.iff _ _).1 e)⟩
theorem drop_id (h : LitOk lit) {k : κ} {l : List (κ × α)} (hg : getK lit k l = none) : dropK lit k l = l := by
  unfold dropK
  rw [List.filter_eq_self]
  intro p hp
  rw [Bool.not_eq_true', Bool.eq_false_iff]
  intro e
  exact (get_none h).1 hg p hp ((h.iff _ _).1 e)
theorem ins_len (x : κ × α) : ∀ l : List (κ × α), (insK lit x l).length = l.length + 1
  | [] => rfl
  | y :: r => by
    unfold insK
    split
    · rfl
    · rw [List.length_cons, ins_len x r, List.length_cons]
theorem tot_ins (g : α → Nat) (x : κ × α) : ∀ l : List (κ × α), totK g (insK lit x l) = totK g l + g x.2
  | [] => by simp [insK, totK]
  | y :: r => by
    have ih := tot_ins g x r
    unfold totK at ih ⊢
    unfold insK
    split
    · simp only [List.map_cons, List.sum_cons]; omega
    · simp only [List.map_cons, List.sum_cons, ih]; omega
def gotN (g : α → Nat) : Option α → Nat
  | some a => g a
  | none => 0
theorem drop_tot (h : LitOk lit) (g : α → Nat) {k : κ} : ∀ {l : List (κ × α)}, l.Pairwise (fun p q => lit p.1 ≠ lit q.1) → totK g (dropK lit k l) + gotN g (getK lit k l) = totK g l ∧ (dropK lit k l).length + (if (getK lit k l).isSome = true then 1 else 0) = l.length
  | [], _ => ⟨rfl, rfl⟩
  | y :: r, hp => by
    obtain ⟨h1, h2⟩ := List.pairwise_cons.1 hp
    obtain ⟨ih1, ih2⟩ := drop_tot h g (k := k) h2
    cases hy : (lit y.1).sameKey (lit k) with
    | false =>
      have e1 : dropK lit k (y :: r) = y :: dropK lit k r := by unfold dropK; rw [List.filter_cons, if_pos (by simp [hy])]
      have e2 : getK lit k (y :: r) = getK lit k r := by unfold getK; rw [List.find?_cons, hy]
      rw [e1, e2]
      unfold totK at ih1 ⊢
      simp only [List.map_cons, List.sum_cons, List.length_cons]
      exact ⟨by omega, by omega⟩
    | true =>
      have e := (h.iff _ _).1 hy
      have hn : getK lit k r = none := (get_none h).2 fun p hp' e' => h1 p hp' (by rw [e, e'])
      have e1 : dropK lit k (y :: r) = r := by
        have := drop_id h hn
        unfold dropK at this ⊢
        rw [List.filter_cons, if_neg (by simp [hy]), this]
      have e2 : getK lit k (y :: r) = some y.2 := by unfold getK; rw [List.find?_cons, hy]; rfl
      rw [e1, e2]
      unfold totK
      simp only [List.map_cons, List.sum_cons, List.length_cons, gotN, Option.isSome_some, if_pos]
      exact ⟨by omega, trivial⟩
theorem put_tot (h : LitOk lit) (g : α → Nat) {k : κ} {a : α} {l : List (κ × α)} (hp : l.Pairwise (fun p q => lit p.1 ≠ lit q.1)) : totK g (putK lit k a l) + gotN g (getK lit k l) = totK g l + g a := by
  have h1 := (drop_tot h g (k := k) hp).1
  unfold putK
  rw [tot_ins]
  show totK g (dropK lit k l) + g a + _ = _
  omega
theorem put_len (h : LitOk lit) {k : κ} {a : α} {l : List (κ × α)} (hp : l.Pairwise (fun p q => lit p.1 ≠ lit q.1)) : (putK lit k a l).length + (if (getK lit k l).isSome = true then 1 else 0) = l.length + 1 := by
  have h1 := (drop_tot h (fun _ => 0) (k := k) hp).2
  unfold putK
  rw [ins_len]
  omega
end
theorem litS : LitOk slit := ⟨slit_inj, fun k => by simp [slit, Lit.sameKey]⟩
theorem tot_cons {κ α : Type} (g : α → Nat) (y : κ × α) (r : List (κ × α)) : totK g (y :: r) = g y.2 + totK g r := by unfold totK; rw [List.map_cons, List.sum_cons]
theorem get_of_mem {κ α : Type} {lit : κ → Lit} (h : LitOk lit) : ∀ {l : List (κ × α)}, l.Pairwise (fun p q => lit p.1 ≠ lit q.1) → ∀ {p : κ × α}, p ∈ l → getK lit p.1 l = some p.2
  | [], _, p, hp => by cases hp
  | y :: r, hw, p, hp => by
    obtain ⟨h1, h2⟩ := List.pairwise_cons.1 hw
    unfold getK
    rw [List.find?_cons]
    rcases List.mem_cons.1 hp with rfl | g
    · rw [h.same]; rfl
    · have h3 : (lit y.1).sameKey (lit p.1) = false := by
        rw [Bool.eq_false_iff]; intro e
        exact h1 p g (WideAt.sameKey_eq e)
      rw [h3]
      exact get_of_mem h h2 g
theorem GM.rise {κ α : Type} {T : MTy} {lit : κ → Lit} {f : α → Value} {w : World} {M : Nat} {l : List (κ × α)} (h : GM T lit f w M l) : l.Pairwise fun p q => (lit p.1).before (lit q.1) = true := by
  obtain ⟨es, he, hp, _⟩ := World.ownsMap.canon h T.K
  have e1 : es = encK lit f l := by cases he; rfl
  rw [e1] at hp
  unfold encK at hp
  exact (List.pairwise_map (f := fun p : κ × α => (lit p.1, (DataW.held (f p.2) : DataW Value))) (R := fun p q => p.1.before q.1 = true)).1 hp
theorem bb_lt : ∀ a b : List UInt8, bytesBefore a b = true → a < b
  | [], [], h => by cases h
  | [], b :: s, _ => List.nil_lt_cons _ _
  | a :: r, [], h => by cases h
  | a :: r, b :: s, h => by
    unfold bytesBefore at h
    rw [List.cons_lt_cons_iff]
    rcases Bool.or_eq_true_iff.1 h with g | g
    · exact .inl (by simpa using g)
    · obtain ⟨g1, g2⟩ := Bool.and_eq_true_iff.1 g
      exact .inr ⟨by simpa using g1, bb_lt r s g2⟩
end Go.Proofs.Ytpcohkhdbjimgaa
