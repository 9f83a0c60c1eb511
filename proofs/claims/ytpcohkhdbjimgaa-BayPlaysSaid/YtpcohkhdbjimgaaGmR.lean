/- A range over a map, as walks are told of it: which entries are still to come; what is summed up over it. -/
import Derived.Test.YtpcohkhdbjimgaaGm
import Derived.Maps.RangeWalk
namespace Go.Proofs.Ytpcohkhdbjimgaa
open Go.RowKit
open Go.Maps (Keyed)
set_option linter.unusedVariables false

section
variable {κ α : Type} {lit : κ → Lit} {f : α → Value} {l : List (κ × α)} {T : MTy} {w w' : World} {M r cnt : Nat} {left : Lit → Bool}
/-- a range over block M under way, its iterator block r -/
def GR (T : MTy) (lit : κ → Lit) (f : α → Value) (w : World) (M r : Nat) (l : List (κ × α)) (left : Lit → Bool) (cnt : Nat) : Prop := w.ranges Try.prog T.k heldR M r l.length (.map (encK lit f l)) left cnt
theorem GR.gm (h : GR T lit f w M r l left cnt) : GM T lit f w M l := World.ranges.owns h
theorem GR.kept {row : Option Nat} (h : GR T lit f w M r l left cnt) (hg : w.grownBy w' row) (h1 : some M ≠ row) (h2 : some r ≠ row) : GR T lit f w' M r l left cnt := World.ranges.kept h hg h1 h2
theorem GR.below (h : GR T lit f w M r l left cnt) (hb : Below w.heap.size w w') : GR T lit f w' M r l left cnt :=
  h.kept (row := none) ⟨hb.os, hb.tape, hb.output, hb.size, fun i hi _ => hb.block i hi⟩ (by simp) (by simp)
theorem GR.lt (h : GR T lit f w M r l left cnt) : r < w.heap.size := World.ranges.lt h
theorem GR.left_eq (h : GR T lit f w M r l left cnt) : w.rangeLeft M r = cnt := World.ranges.left_eq h
theorem GM.apart (h : GM T lit f w M l) : l.Pairwise fun p q => lit p.1 ≠ lit q.1 := by
  obtain ⟨es, he, hp⟩ := World.ownsMap.tidy h T.K
  have e1 : es = encK lit f l := by cases he; rfl
  rw [e1] at hp
  unfold encK at hp
  exact (List.pairwise_map (f := fun p : κ × α => (lit p.1, (DataW.held (f p.2) : DataW Value))) (R := fun p q => p.1 ≠ q.1)).1 hp
theorem GM.key (h : GM T lit f w M l) : ∀ p ∈ l, WideAt.IsKeyLit (lit p.1) := by
  obtain ⟨es, he, _, hk⟩ := World.ownsMap.entries h T.K
  have e1 : es = encK lit f l := by cases he; rfl
  intro p hp
  rw [e1] at hk
  exact hk (lit p.1, .held (f p.2)) (List.mem_map.2 ⟨p, hp, rfl⟩)
theorem find_key {kl : Lit} {y : DataW Value} (h : ∀ zd, (DataW.map (encK lit f l)).atKey kl zd = y) : ∃ q ∈ l, lit q.1 = kl ∧ y = .held (f q.2) := by
  unfold DataW.atKey at h
  simp only at h
  cases hf : (encK lit f l).find? (fun p => p.1.sameKey kl) with
  | none =>
    simp only [hf] at h
    have h1 := h .nil
    have h2 := h (.lit (.bool true))
    rw [← h1] at h2
    cases h2
  | some p =>
    simp only [hf] at h
    have h1 := h .nil
    have hm := List.mem_of_find?_eq_some hf
    have hs := List.find?_some hf
    obtain ⟨q, hq, rfl⟩ := List.mem_map.1 hm
    exact ⟨q, hq, WideAt.sameKey_eq hs, h1.symm⟩
theorem wpList_range_gm {ops : Array Oper} {rest : List Oper} {o : Oper} {a : Act} {Q : Exit → Act → World → Prop} (hg : o.guard = none) (m : Operand) (hop : o.op = Op.range T.t m) (hm : a.eval m = .map (some M)) (h : GM T lit f w M l)
    (hK : ∀ w', GR T lit f w' M w.heap.size l (Maps.has (.map (encK lit f l))) l.length → w.grownBy w' none → w'.heap.size = w.heap.size + 1 → wpList Try.prog ops Q rest (a.put o.dst (.pointer (some ⟨w.heap.size, 0, none⟩))) w') : wpList Try.prog ops Q (o :: rest) a w :=
  wpList_range_own w hg m T.t hop T.k T.e T.K T.ht heldR M l.length _ hm h fun w' h1 h2 h3 => hK w' (by rw [enc_size] at h1; exact h1) h2 h3
theorem wpList_next_gm {ops : Array Oper} {rest : List Oper} {o : Oper} {a : Act} {Q : Exit → Act → World → Prop} (hg : o.guard = none) (it : Operand) (hop : o.op = Op.next it false) (kv : κ → Value) (hkv : ∀ p ∈ l, keyOf Try.prog T.k (kv p.1) = some (lit p.1))
    (hit : a.eval it = .pointer (some ⟨r, 0, none⟩)) (h : GR T lit f w M r l left cnt)
    (hDone : (∀ kl, left kl = false) → wpList Try.prog ops Q rest (a.put o.dst (.tuple #[.bool false])) w)
    (hMore : ∀ (q : κ × α) (w' : World) (cnt' : Nat), q ∈ l → left (lit q.1) = true → GR T lit f w' M r l (fun z => left z && !z.sameKey (lit q.1)) cnt' → cnt' < cnt → w.grownBy w' (some r) → w'.heap.size = w.heap.size →
      (Instr.entry (.pointer (some ⟨r, 0, none⟩))).run Try.prog w' = .ok (.tuple #[kv q.1, f q.2]) w' → wpList Try.prog ops Q rest (a.put o.dst (.tuple #[.bool true, kv q.1, f q.2])) w') : wpList Try.prog ops Q (o :: rest) a w := by
  refine wpList_plain hg fun K' hK' => ?_
  unfold Oper.wp
  rcases World.ranges.next h T.K o.type with ⟨h0, hl, hrun⟩ | ⟨key, v, kl, y, w', cnt', hkey, hlk, hv, hat, hrun, hrg, hlt, hgr, hsz, hen⟩
  · simp [execOp, hop, hit, hrun, Result.andThen]
    exact hK' _ _ (hDone hl)
  · obtain ⟨q, hq, rfl, hy⟩ := find_key hat
    have hv2 : v = f q.2 := by
      unfold heldR at hv
      have := congrArg (fun z => (z.map Prod.fst)) hv
      simp only [Option.map_some, Option.some.injEq] at this
      rw [hy] at this
      simpa using this
    have hk2 : key = kv q.1 := T.K.inj hkey (hkv q hq)
    subst hv2
    subst hk2
    simp [execOp, hop, hit, hrun, Result.andThen]
    exact hK' _ _ (hMore q w' cnt' hq hlk hrg hlt hgr hsz hen)
/-- what is summed up over those that have come -/
def sumK (lit : κ → Lit) (g : α → Nat) (left : Lit → Bool) (l : List (κ × α)) : Nat := (l.map fun p => if left (lit p.1) = true then 0 else g p.2).sum
def totK (g : α → Nat) (l : List (κ × α)) : Nat := (l.map fun p => g p.2).sum
theorem sumK_start (g : α → Nat) (hk : ∀ p ∈ l, WideAt.IsKeyLit (lit p.1)) : sumK lit g (Maps.has (.map (encK lit f l))) l = 0 := by
  unfold sumK
  have : ∀ p ∈ l, (if Maps.has (DataW.map (encK lit f l)) (lit p.1) = true then 0 else g p.2) = 0 := by
    intro p hp
    have : Maps.has (DataW.map (encK lit f l)) (lit p.1) = true := List.any_eq_true.2 ⟨(lit p.1, .held (f p.2)), List.mem_map.2 ⟨p, hp, rfl⟩, WideAt.sameKey_self (hk p hp)⟩
    rw [if_pos this]
  rw [List.map_congr_left this]
  clear this hk
  induction l with
  | nil => rfl
  | cons p l ih => rw [List.map_cons, List.sum_cons, ih]
theorem sumK_end (g : α → Nat) (h : ∀ kl, left kl = false) : sumK lit g left l = totK g l := by
  unfold sumK totK
  congr 1
  exact List.map_congr_left fun p _ => by rw [h]; rfl
theorem sumK_step (g : α → Nat) : ∀ {l : List (κ × α)}, l.Pairwise (fun p q => lit p.1 ≠ lit q.1) → (∀ p ∈ l, WideAt.IsKeyLit (lit p.1)) → ∀ {q : κ × α}, q ∈ l → left (lit q.1) = true →
    sumK lit g (fun z => left z && !z.sameKey (lit q.1)) l = sumK lit g left l + g q.2
  | [], _, _, q, hq, _ => by cases hq
  | p :: l, hp, hk, q, hq, hl => by
    obtain ⟨h1, h2⟩ := List.pairwise_cons.1 hp
    have same : ∀ x ∈ l, lit x.1 ≠ lit q.1 → (if (left (lit x.1) && !(lit x.1).sameKey (lit q.1)) = true then 0 else g x.2) = if left (lit x.1) = true then 0 else g x.2 := by
      intro x _ hne
      rw [Maps.sameKey_ne hne]; simp
    rcases List.mem_cons.1 hq with rfl | hq'
    · unfold sumK
      rw [List.map_cons, List.map_cons, List.sum_cons, List.sum_cons, List.map_congr_left (fun x hx => same x hx (fun e => h1 x hx e.symm))]
      dsimp only
      have e1 : (left (lit q.1) && !(lit q.1).sameKey (lit q.1)) = false := by rw [WideAt.sameKey_self (hk q (by simp))]; simp
      rw [if_neg (by rw [e1]; decide), if_pos hl]
      omega
    · have ih := sumK_step g h2 (fun x hx => hk x (by simp [hx])) hq' hl
      unfold sumK at ih ⊢
      rw [List.map_cons, List.map_cons, List.sum_cons, List.sum_cons, ih]
      have hne := h1 q hq'
      dsimp only
      have e1 : (left (lit p.1) && !(lit p.1).sameKey (lit q.1)) = left (lit p.1) := by rw [Maps.sameKey_ne hne]; simp
      simp only [e1]
      omega
theorem sumK_le (g : α → Nat) (left : Lit → Bool) (l : List (κ × α)) : sumK lit g left l ≤ totK g l := by
  unfold sumK totK
  induction l with
  | nil => exact Nat.le_refl _
  | cons p l ih =>
    rw [List.map_cons, List.map_cons, List.sum_cons, List.sum_cons]
    split <;> omega
theorem tot_mem (g : α → Nat) : ∀ {l : List (κ × α)} {q : κ × α}, q ∈ l → g q.2 ≤ totK g l
  | p :: l, q, hq => by
    unfold totK
    rw [List.map_cons, List.sum_cons]
    rcases List.mem_cons.1 hq with rfl | h
    · omega
    · have := tot_mem g h
      unfold totK at this
      omega
end
end Go.Proofs.Ytpcohkhdbjimgaa
