/- A copy of a store, plainly: the same but for its parts' blocks. -/
import Derived.Test.YtjafagfhkpaciaaStoDmp
namespace Go.Proofs.Ytjafagfhkpaciaa
open Go.RowKit
set_option linter.unusedVariables false

theorem before_iff (a b : Int) : (ilit a).before (ilit b) = true ↔ a < b := by simp [ilit, Lit.before]
/-- those that have come, with the blocks that they have got -/
def upsF (left : Lit → Bool) (f : Int → Nat) (l : List (Int × UplS)) : List (Int × UplS) := (l.filter fun p => !left (ilit p.1)).map fun p => (p.1, { p.2 with pb := f p.1 })
theorem ins_ups {g : Int × UplS → UplS} {P : Int → Bool} {k : Int} {u : UplS} (hP : P k = false) : ∀ {l : List (Int × UplS)}, l.Pairwise (fun p q => (ilit p.1).before (ilit q.1) = true) → (k, u) ∈ l →
    insK ilit (k, g (k, u)) ((l.filter fun p => P p.1).map fun p => (p.1, g p)) = (l.filter fun p => P p.1 || decide (p.1 = k)).map fun p => (p.1, g p)
  | [], _, hm => by cases hm
  | y :: r, hr, hm => by
    obtain ⟨h1, h2⟩ := List.pairwise_cons.1 hr
    rcases List.mem_cons.1 hm with rfl | hm
    · have e1 : (r.filter fun p => P p.1 || decide (p.1 = k)) = r.filter fun p => P p.1 := by
        apply List.filter_congr
        intro p hp
        have := (before_iff _ _).1 (h1 p hp)
        rw [show decide (p.1 = k) = false from decide_eq_false (by simp only at this; omega), Bool.or_false]
      rw [List.filter_cons, if_neg (by simp [hP]), List.filter_cons, if_pos (by simp), e1, List.map_cons]
      cases hq : (r.filter fun p => P p.1).map fun p => (p.1, g p) with
      | nil => rfl
      | cons z t =>
        have hz : z ∈ (r.filter fun p => P p.1).map fun p => (p.1, g p) := by rw [hq]; exact List.mem_cons_self ..
        obtain ⟨p, hp, rfl⟩ := List.mem_map.1 hz
        unfold insK
        rw [if_pos (h1 p (List.mem_filter.1 hp).1)]
    · have ih := ins_ups (g := g) hP h2 hm
      have hb := (before_iff _ _).1 (h1 _ hm)
      simp only at hb
      have e2 : decide (y.1 = k) = false := decide_eq_false (by omega)
      rw [List.filter_cons, List.filter_cons (p := fun p : Int × UplS => P p.1 || decide (p.1 = k)), e2, Bool.or_false]
      split
      · rw [List.map_cons, List.map_cons, ← ih]
        show (if _ then _ else _) = _
        rw [if_neg (by rw [before_iff]; simp only; omega)]
      · exact ih
theorem upsF_step {left : Lit → Bool} {f : Int → Nat} {l : List (Int × UplS)} (hr : l.Pairwise fun p q => (ilit p.1).before (ilit q.1) = true) {k : Int} {u : UplS} (hm : (k, u) ∈ l) (hk : left (ilit k) = true) (b : Nat) :
    putK ilit k { u with pb := b } (upsF left f l) = upsF (fun z => left z && !z.sameKey (ilit k)) (fun z => if z = k then b else f z) l := by
  have e1 : upsF left f l = (l.filter fun p => (fun z => !left (ilit z)) p.1).map fun p => (p.1, (fun q : Int × UplS => ({ q.2 with pb := if q.1 = k then b else f q.1 } : UplS)) p) := by
    unfold upsF
    apply List.map_congr_left
    intro p hp
    have h1 := (List.mem_filter.1 hp).2
    have hne : ¬ p.1 = k := fun e => by rw [e, hk] at h1; cases h1
    simp only [if_neg hne]
  have e2 : getK ilit k (upsF left f l) = none := (get_none litI).2 fun p hp e => by
    unfold upsF at hp
    obtain ⟨q, hq, rfl⟩ := List.mem_map.1 hp
    have h1 := (List.mem_filter.1 hq).2
    simp only at e
    rw [e, hk] at h1
    cases h1
  unfold putK
  rw [drop_id litI e2, e1]
  have h3 := ins_ups (g := fun q : Int × UplS => ({ q.2 with pb := if q.1 = k then b else f q.1 } : UplS)) (P := fun z => !left (ilit z)) (k := k) (u := u) (by simp [hk]) hr hm
  simp only [if_pos] at h3
  rw [h3]
  unfold upsF
  congr 1
  apply List.filter_congr
  intro p hp
  rw [show decide (p.1 = k) = (ilit p.1).sameKey (ilit k) from by
    rw [Bool.eq_iff_iff, decide_eq_true_eq]
    exact (litI.iff _ _).symm]
  show _ = !(left (ilit p.1) && !(ilit p.1).sameKey (ilit k))
  cases left (ilit p.1) <;> cases (ilit p.1).sameKey (ilit k) <;> rfl
theorem upsF_start {f : Int → Nat} {l : List (Int × UplS)} {left : Lit → Bool} (h : ∀ p ∈ l, left (ilit p.1) = true) : upsF left f l = [] := by
  unfold upsF
  rw [List.filter_eq_nil_iff.2 (fun p hp => by rw [h p hp]; decide)]
  rfl
/-- the same, its parts' blocks others -/
def reB (f : Int → Nat) (σ : Sto) : Sto := { σ with ups := σ.ups.map fun p => (p.1, { p.2 with pb := f p.1 }) }
theorem upsF_end {f : Int → Nat} {l : List (Int × UplS)} {left : Lit → Bool} (h : ∀ kl, left kl = false) : upsF left f l = l.map fun p => (p.1, { p.2 with pb := f p.1 }) := by
  unfold upsF
  rw [List.filter_eq_self.2 (fun p _ => by rw [h]; rfl)]
theorem dump_reB (f : Int → Nat) (σ : Sto) : dumpT (reB f σ) = dumpT σ := by
  have h : ∀ t k, dumpU (σ.ups.map fun p => (p.1, ({ p.2 with pb := f p.1 } : UplS))) t k = dumpU σ.ups t k := by
    intro t k
    induction k with
    | zero => rfl
    | succ k ih =>
      show dumpU _ t k ++ _ = dumpU _ t k ++ _
      rw [ih, List.getElem?_map]
      cases σ.ups[k]? <;> rfl
  unfold dumpT reB
  simp only
  rw [h, List.length_map]
theorem inv_reB {σ : Sto} (f : Int → Nat) (h : Inv σ) : Inv (reB f σ) := by
  have e1 : totK uSz (reB f σ).ups = totK uSz σ.ups := by
    unfold totK reB
    rw [List.map_map]
    rfl
  refine ⟨h.ver, h.id, h.now, h.siz, by rw [e1]; exact h.tot, h.nob, by unfold reB; simp only; rw [List.length_map]; exact h.nup, h.obj, fun p hp => ?_, fun p hp x hx => ?_⟩
  · obtain ⟨q, hq, rfl⟩ := List.mem_map.1 hp
    exact h.upl q hq
  · obtain ⟨q, hq, rfl⟩ := List.mem_map.1 hp
    exact h.prt q hq x hx
theorem cloneO_any {w : World} {b : Nat} {l : List (ByteArray × ObjS)} (h : GM TO slit objC w b l) :
    Calls Try.prog 33 #[.map (some b)] w fun e w' => e = .returned (.map (some w.heap.size)) ∧ GM TO slit objC w' w.heap.size l ∧ Below w.heap.size w w' ∧ w'.heap.size = w.heap.size + 1 := by
  obtain ⟨es, clock, hb, F, hs, hD⟩ := h
  refine (AnyW.maps_Clone sh_clone33 b es clock w hb).mono ?_
  rintro e w' ⟨rfl, rfl⟩
  exact ⟨rfl, ⟨es, clock, (MapKept.heap_alloc w _).1, F, hs, hD⟩, (Below.refl _ _).alloc (Nat.le_refl _) _, by simp⟩
theorem cloneP_any {w : World} {b : Nat} {l : List (Int × ByteArray)} (h : GM TP ilit prtC w b l) :
    Calls Try.prog 34 #[.map (some b)] w fun e w' => e = .returned (.map (some w.heap.size)) ∧ GM TP ilit prtC w' w.heap.size l ∧ Below w.heap.size w w' ∧ w'.heap.size = w.heap.size + 1 := by
  obtain ⟨es, clock, hb, F, hs, hD⟩ := h
  refine (AnyW.maps_Clone sh_clone34 b es clock w hb).mono ?_
  rintro e w' ⟨rfl, rfl⟩
  exact ⟨rfl, ⟨es, clock, (MapKept.heap_alloc w _).1, F, hs, hD⟩, (Below.refl _ _).alloc (Nat.le_refl _) _, by simp⟩
theorem cloneO_nil (w : World) :
    Calls Try.prog 33 #[.map none] w fun e w' => e = .returned (.map none) ∧ w' = w := AnyW.maps_Clone_nil sh_clone33 w
end Go.Proofs.Ytjafagfhkpaciaa
