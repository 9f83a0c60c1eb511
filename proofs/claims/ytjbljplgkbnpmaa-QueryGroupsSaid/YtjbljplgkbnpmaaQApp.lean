/- Rows appended to rows. -/
import Derived.Test.YtjbljplgkbnpmaaSortPB
import Derived.Laws.AppendOwnNone
namespace Go.Proofs.Ytjbljplgkbnpmaa
open Go.ChangeShapes Go.WideShapes Go.Deep Go.RowKit LabPlain RecPlain Stab
set_option linter.unusedVariables false

theorem RowsAt.ofOwn {w : World} {base : Nat} {v : Value} {n : Nat} {l : List RowV} (h : w.ownsRow base 62 9 v n (rcells l)) (hl : l.length = n) (hf : ∀ x ∈ l, x.fits) (hlab : ∀ x ∈ l, LabsAt w x.r.la x.r.ln x.r.lc x.r.labs) : ∃ a c, v = .slice a n c ∧ RowsAt w a n c l := by
  rcases h.2 with ⟨rfl, h0⟩ | ⟨g, cap, cur, rfl, hg, hh, hnc, hcap, hsz, htake⟩
  · subst h0
    obtain rfl : l = [] := List.eq_nil_of_length_eq_zero hl
    exact ⟨none, 0, rfl, RowsAt.empty w none 0 (by omega) (fun _ => rfl)⟩
  · refine ⟨_, cap, rfl, hl, hnc, by unfold maxLen at hcap; exact hcap, (fun e => by cases e), hf, hlab, fun hp => ⟨g, 0, rfl, (Array.getElem?_eq_some_iff.1 hh).1, fun i hi j u hu => ?_⟩⟩
    have hj : j < 9 := (List.getElem?_eq_some_iff.1 hu).1
    have h2 : (rcells l)[i * 9 + j]? = some u := by
      unfold rcells
      rw [flat_at RowV.cells 9 (fun _ => rfl) row0 l i j (by omega) hj, hu]
    rw [Nat.zero_add, cell_of_row w _ _ _ _ (0, 0) hh, ← h2, ← htake, List.getElem?_take_of_lt (by omega), Array.getElem?_toList]
theorem RowsAt.src {w : World} {ad : Addr} {n c : Nat} {l : List RowV} (h : RowsAt w (some ad) n c l) : ∀ j u, (rcells l)[j]? = some u → w.cell? (ad.add j) = some u := by
  intro j u hu
  have hj : j < n * 9 := by rw [← h.len, ← rcells_len]; exact (List.getElem?_eq_some_iff.1 hu).1
  obtain ⟨b, off, he, hlt, hc⟩ := h.cells (by omega)
  cases he
  have h1 := hc (j / 9) (by omega) (j % 9) u (by
    rw [← hu]
    unfold rcells
    have h2 := flat_at RowV.cells 9 (fun _ => rfl) row0 l (j / 9) (j % 9) (by rw [h.len]; omega) (by omega)
    rw [show j / 9 * 9 + j % 9 = j by omega] at h2
    exact h2.symm)
  rw [Addr.add_mid, show off + j = off + j / 9 * 9 + j % 9 by omega]
  exact h1
/-- a beginning of rows -/
theorem RowsAt.front {w : World} {a : Option Addr} {n c m : Nat} {l : List RowV} (h : RowsAt w a n c l) (hm : m ≤ n) : RowsAt w a m c (l.take m) := by
  refine ⟨by rw [List.length_take, h.len, Nat.min_eq_left hm], Nat.le_trans hm h.cap, h.capm, h.nl, fun x hx => h.fits x (List.mem_of_mem_take hx), fun x hx => h.labs x (List.mem_of_mem_take hx), fun hp => ?_⟩
  obtain ⟨b, off, he, hlt, hc⟩ := h.cells (by omega)
  refine ⟨b, off, he, hlt, fun i hi j u hu => hc i (by omega) j u ?_⟩
  rw [← hu, List.getD_eq_getElem?_getD, List.getD_eq_getElem?_getD, List.getElem?_take_of_lt hi]
theorem wpList_append_rows {w : World} {ops : Array Oper} {rest : List Oper} {o : Oper} {a : Act} {Q : Exit → Act → World → Prop} (hgd : o.guard = none) (s x : Operand)
    (ho : o.op = .call { callee := .builtin .append, args := #[s, x], argTypes := #[58, 58] })
    (base : Nat) (v : Value) (n : Nat) (xs : List RowV) (hs : a.eval s = v) (hown : w.ownsRow base 62 9 v n (rcells xs))
    (src : Option Addr) (m c : Nat) (ys : List RowV) (hx : a.eval x = .slice src m c) (hb : RowsAt w src m c ys)
    (h63 : (n + m) * 96 ≤ 140737488355328) (hbase : base ≤ w.heap.size)
    (h : ∀ v' w', w'.ownsRow base 62 9 v' (n + m) (rcells (xs ++ ys)) → w.grownBy w' v.ownBlock → (v'.ownBlock = v.ownBlock ∨ v'.ownBlock = some w.heap.size) → wpList Try.prog ops Q rest (a.put o.dst v') w') : wpList Try.prog ops Q (o :: rest) a w := by
  obtain ⟨i0, hi, hz0, hz1, hz2⟩ := info_parts row_info
  rcases src with _ | ad
  · have hc := hb.nl rfl
    have hm : m = 0 := by have := hb.cap; omega
    subst hm
    subst hc
    have hy : ys = [] := List.eq_nil_of_length_eq_zero hb.len
    subst hy
    refine wpList_append_own_none hgd s x 58 ho base 62 i0 9 Try.underlying58 hi v n (rcells xs) hs hown hx ?_
    exact h v w (by simpa using hown) (World.grownBy.refl _ _) (.inl rfl)
  · refine wpList_append_own_at w hgd s x 58 ho base 62 i0 _ 9 96 Try.underlying58 hi hz0 hz1 hz2 rfl (by decide) v n (rcells xs) hs hown ad m c (rcells ys) hx (by rw [rcells_len, hb.len]) hb.src (rcells_all _) (by unfold maxLen; omega) h63 hbase ?_
    intro v' w' h1 h2 _ h4
    exact h v' w' (by rw [rcells_app]; exact h1) h2 h4

end Go.Proofs.Ytjbljplgkbnpmaa
