/- append of entries, wherever they lie, to entries that the call owns. -/
import Derived.Test.YteihbbmbdkkbbaaEEnts
namespace Go.Proofs.Yteihbbmbdkkbbaa
open Go.RowKit LabPlain Stab
set_option linter.unusedVariables false

theorem EntsAt.src {w : World} {ad : Addr} {n c : Nat} {l : List EntV} (h : EntsAt w (some ad) n c l) : ∀ j u, (ecells l)[j]? = some u → w.cell? (ad.add j) = some u := by
  intro j u hu
  have hj : j < n * 9 := by rw [← h.len, ← ecells_len]; exact (List.getElem?_eq_some_iff.1 hu).1
  obtain ⟨b, off, he, hlt, hc⟩ := h.cells (by omega)
  cases he
  have h1 := hc (j / 9) (by omega) (j % 9) u (by
    rw [← hu]
    unfold ecells
    have h2 := flat_at EntV.cells 9 (fun _ => rfl) ent0 l (j / 9) (j % 9) (by rw [h.len]; omega) (by omega)
    rw [show j / 9 * 9 + j % 9 = j by omega] at h2
    exact h2.symm)
  rw [Addr.add_mid, show off + j = off + j / 9 * 9 + j % 9 by omega]
  exact h1
theorem EntsAt.ofOwn {w : World} {base : Nat} {v : Value} {n : Nat} {l : List EntV} (h : w.ownsRow base 57 9 v n (ecells l)) (hl : l.length = n) (hsz : ∀ x ∈ l, x.key.size ≤ 140737488355328 ∧ x.part.size ≤ 140737488355328) : ∃ a c, v = .slice a n c ∧ EntsAt w a n c l := by
  have ho := h
  rcases h.2 with ⟨rfl, h0⟩ | ⟨g, cap, cur, rfl, hg, hh, hnc, hcap, hsz2, htake⟩
  · subst h0
    obtain rfl : l = [] := List.eq_nil_of_length_eq_zero hl
    exact ⟨none, 0, rfl, EntsAt.empty w none 0 (by omega) (fun _ => rfl)⟩
  · refine ⟨some ⟨g, 0, none⟩, cap, rfl, hl, hnc, by unfold maxLen at hcap; exact hcap, (fun e => by cases e), hsz, fun hp => ⟨g, 0, rfl, (ho.lt g rfl).2, fun i hi j u hu => ?_⟩⟩
    have hj : j < 9 := (List.getElem?_eq_some_iff.1 hu).1
    rw [Nat.zero_add]
    refine esrc_own ho _ u ?_
    unfold ecells
    rw [flat_at EntV.cells 9 (fun _ => rfl) ent0 l i j (by omega) hj]; exact hu
theorem wpList_append_ents {w : World} {ops : Array Oper} {rest : List Oper} {o : Oper} {a : Act} {Q : Exit → Act → World → Prop} (hgd : o.guard = none) (s x : Operand)
    (ho : o.op = .call { callee := .builtin .append, args := #[s, x], argTypes := #[51, 51] })
    (base : Nat) (v : Value) (n : Nat) (xs : List EntV) (hs : a.eval s = v) (hown : w.ownsRow base 57 9 v n (ecells xs))
    (src : Option Addr) (m c : Nat) (ys : List EntV) (hx : a.eval x = .slice src m c) (hb : EntsAt w src m c ys)
    (h63 : (n + m) * 88 ≤ 140737488355328) (hbase : base ≤ w.heap.size)
    (h : ∀ v' w', w'.ownsRow base 57 9 v' (n + m) (ecells (xs ++ ys)) → w.grownBy w' v.ownBlock → wpList Try.prog ops Q rest (a.put o.dst v') w') : wpList Try.prog ops Q (o :: rest) a w := by
  obtain ⟨i0, hi, hz0, hz1, hz2⟩ := info_parts ent_info
  rcases src with _ | ad
  · have hc := hb.nl rfl
    have hm : m = 0 := by have := hb.cap; omega
    subst hm
    subst hc
    have hy : ys = [] := List.eq_nil_of_length_eq_zero hb.len
    subst hy
    refine wpList_append_own_none hgd s x 51 ho base 57 i0 9 Try.underlying51 hi v n (ecells xs) hs hown hx ?_
    exact h v w (by simpa using hown) (World.grownBy.refl _ _)
  · refine wpList_append_own_at w hgd s x 51 ho base 57 i0 _ 9 88 Try.underlying51 hi hz0 hz1 hz2 rfl (by decide) v n (ecells xs) hs hown ad m c (ecells ys) hx (by rw [ecells_len, hb.len]) hb.src (ecells_all _) (by unfold maxLen; omega) h63 hbase ?_
    intro v' w' h1 h2 _ _
    exact h v' w' (by rw [ecells_app]; exact h1) h2
end Go.Proofs.Yteihbbmbdkkbbaa
