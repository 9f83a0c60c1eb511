/- Matchers in new memory; one more of them put behind or ahead of others. Written by genqmats.py. -/
import Derived.Test.YtmnfdkclkjeggaaQFull
import Derived.Test.YtmnfdkclkjeggaaLabMeet2
namespace Go.Proofs.Ytmnfdkclkjeggaa
open Go.RowKit LabPlain RecPlain
set_option linter.unusedVariables false

def mcell (m : Mat) : List Value := [.string m.1, .int .i64 m.2.1, .string m.2.2]
def mcells (l : List Mat) : List Value := l.flatMap mcell
theorem mcells_len (l : List Mat) : (mcells l).length = l.length * 3 := flat_len mcell 3 (fun _ => rfl) l
theorem mcells_app (l m : List Mat) : mcells (l ++ m) = mcells l ++ mcells m := by unfold mcells; simp
theorem mcells_all (l : List Mat) : ∀ u ∈ mcells l, u.oneCell' = true := by
  intro u hu
  unfold mcells at hu
  obtain ⟨x, _, hx⟩ := List.mem_flatMap.1 hu
  simp [mcell] at hx
  rcases hx with rfl | rfl | rfl <;> rfl
theorem mat_infoQ : (Try.prog.info? 33).map (fun i => (i.zero, i.size, i.bytes)) = some (some (.agg #[.string ByteArray.empty, .int .i64 0, .string ByteArray.empty]), 3, 40) := by kernel_rfl
theorem MatsAt.src {w : World} {ad : Addr} {n c : Nat} {l : List Mat} (h : MatsAt w (some ad) n c l) : ∀ j u, (mcells l)[j]? = some u → w.cell? (ad.add j) = some u := by
  intro j u hu
  have hj : j < n * 3 := by rw [← h.len, ← mcells_len]; exact (List.getElem?_eq_some_iff.1 hu).1
  obtain ⟨b, off, he, hlt, hc⟩ := h.cells (by omega)
  cases he
  have h2 := flat_at mcell 3 (fun _ => rfl) mat0 l (j / 3) (j % 3) (by rw [h.len]; omega) (by omega)
  rw [show j / 3 * 3 + j % 3 = j by omega] at h2
  have h3 : (mcell (l.getD (j / 3) mat0))[j % 3]? = some u := by rw [← hu]; exact h2.symm
  have h4 := hc (j / 3) (by omega)
  rw [Addr.add_mid, show off + j = off + j / 3 * 3 + j % 3 by omega]
  rcases (by omega : j % 3 = 0 ∨ j % 3 = 1 ∨ j % 3 = 2) with e | e | e
  · rw [e] at h3 ⊢
    rw [Nat.add_zero, h4.1]; simpa [mcell] using h3
  · rw [e] at h3 ⊢
    rw [h4.2.1]; simpa [mcell] using h3
  · rw [e] at h3 ⊢
    rw [h4.2.2]; simpa [mcell] using h3
theorem MatsAt.ofOwn {w : World} {base : Nat} {v : Value} {n : Nat} {l : List Mat} (h : w.ownsRow base 33 3 v n (mcells l)) (hl : l.length = n) (hs : ∀ x ∈ l, x.1.size ≤ 140737488355328 ∧ x.2.2.size ≤ 140737488355328) : ∃ a c, v = .slice a n c ∧ MatsAt w a n c l := by
  rcases h.2 with ⟨rfl, h0⟩ | ⟨g, cap, cur, rfl, hg, hh, hnc, hcap, hsz, htake⟩
  · subst h0
    obtain rfl : l = [] := List.eq_nil_of_length_eq_zero hl
    exact ⟨none, 0, rfl, MatsAt.empty w none 0 (by omega) (fun _ => rfl)⟩
  · have hcell : ∀ i, i < n → ∀ j u, (mcell (l.getD i mat0))[j]? = some u → w.cell? ⟨g, 0 + i * 3 + j, none⟩ = some u := fun i hi j u hu => by
      have hj : j < 3 := (List.getElem?_eq_some_iff.1 hu).1
      have h2 : (mcells l)[i * 3 + j]? = some u := by
        unfold mcells
        rw [flat_at mcell 3 (fun _ => rfl) mat0 l i j (by omega) hj]; exact hu
      rw [Nat.zero_add, cell_of_row w _ _ _ _ (0, 0) hh, ← h2, ← htake, List.getElem?_take_of_lt (by omega), Array.getElem?_toList]
    exact ⟨_, cap, rfl, hl, hnc, by unfold maxLen at hcap; exact hcap, (fun e => by cases e), hs, fun hp => ⟨g, 0, rfl, (Array.getElem?_eq_some_iff.1 hh).1, fun i hi => ⟨hcell i hi 0 _ rfl, hcell i hi 1 _ rfl, hcell i hi 2 _ rfl⟩⟩⟩
theorem MatsAt.grown {w w' : World} {a : Option Addr} {n c : Nat} {l : List Mat} {row : Option Nat} (h : MatsAt w a n c l) (hg : w.grownBy w' row) (hne : 0 < n → ∀ b off, a = some ⟨b, off, none⟩ → some b ≠ row) : MatsAt w' a n c l :=
  ⟨h.len, h.cap, h.capm, h.nl, h.size, fun hn => by
    obtain ⟨b, off, ha, hlt, hc⟩ := h.cells hn
    exact ⟨b, off, ha, Nat.lt_of_lt_of_le hlt hg.size, fun i hi => ⟨hg.cell (hc i hi).1 (hne hn b off ha), hg.cell (hc i hi).2.1 (hne hn b off ha), hg.cell (hc i hi).2.2 (hne hn b off ha)⟩⟩⟩
theorem mats_oneQ (w : World) (m : Mat) (hs : m.1.size ≤ 140737488355328 ∧ m.2.2.size ≤ 140737488355328) : MatsAt (w.alloc (.cells #[.string m.1, .int .i64 m.2.1, .string m.2.2] 33)) (some ⟨w.heap.size, 0, none⟩) 1 1 [m] := by
  have hc := mat_cells w 33 (.string m.1) (.int .i64 m.2.1) (.string m.2.2)
  refine ⟨rfl, Nat.le_refl _, by omega, (fun e => by cases e), fun x hx => by rw [List.mem_singleton] at hx; rw [hx]; exact hs, fun _ => ⟨w.heap.size, 0, rfl, (Array.getElem?_eq_some_iff.1 (heap_alloc_new w _)).1, fun i hi => ?_⟩⟩
  obtain rfl : i = 0 := by omega
  exact hc
theorem wpList_append_mats {w : World} {ops : Array Oper} {rest : List Oper} {o : Oper} {a : Act} {Q : Exit → Act → World → Prop} (hgd : o.guard = none) (s x : Operand)
    (ho : o.op = .call { callee := .builtin .append, args := #[s, x], argTypes := #[31, 31] })
    (base : Nat) (v : Value) (n : Nat) (xs : List Mat) (hs : a.eval s = v) (hown : w.ownsRow base 33 3 v n (mcells xs))
    (src : Option Addr) (m c : Nat) (ys : List Mat) (hx : a.eval x = .slice src m c) (hb : MatsAt w src m c ys)
    (h63 : (n + m) * 40 ≤ 140737488355328) (hbase : base ≤ w.heap.size)
    (h : ∀ v' w', w'.ownsRow base 33 3 v' (n + m) (mcells (xs ++ ys)) → w.grownBy w' v.ownBlock → wpList Try.prog ops Q rest (a.put o.dst v') w') : wpList Try.prog ops Q (o :: rest) a w := by
  obtain ⟨i0, hi, hz0, hz1, hz2⟩ := info_parts mat_infoQ
  rcases src with _ | ad
  · have hc := hb.nl rfl
    have hm : m = 0 := by have := hb.cap; omega
    subst hm
    subst hc
    have hy : ys = [] := List.eq_nil_of_length_eq_zero hb.len
    subst hy
    refine wpList_append_own_none hgd s x 31 ho base 33 i0 3 Try.underlying31 hi v n (mcells xs) hs hown hx ?_
    exact h v w (by simpa using hown) (World.grownBy.refl _ _)
  · refine wpList_append_own_at w hgd s x 31 ho base 33 i0 _ 3 40 Try.underlying31 hi hz0 hz1 hz2 rfl (by decide) v n (mcells xs) hs hown ad m c (mcells ys) hx (by rw [mcells_len, hb.len]) hb.src (mcells_all _) (by unfold maxLen; omega) h63 hbase ?_
    intro v' w' h1 h2 _ _
    exact h v' w' (by rw [mcells_app]; exact h1) h2
theorem step_append_mats {w : World} {ops : Array Oper} {o : Oper} {a : Act} {K : Act → World → Prop} {Q : Exit → Act → World → Prop} {E : Prop} (hgd : o.guard = none) (s x : Operand)
    (ho : o.op = .call { callee := .builtin .append, args := #[s, x], argTypes := #[31, 31] })
    (base : Nat) (v : Value) (n : Nat) (xs : List Mat) (hs : a.eval s = v) (hown : w.ownsRow base 33 3 v n (mcells xs))
    (src : Option Addr) (m c : Nat) (ys : List Mat) (hx : a.eval x = .slice src m c) (hb : MatsAt w src m c ys)
    (h63 : (n + m) * 40 ≤ 140737488355328) (hbase : base ≤ w.heap.size)
    (h : ∀ v' w', w'.ownsRow base 33 3 v' (n + m) (mcells (xs ++ ys)) → w.grownBy w' v.ownBlock → K (a.put o.dst v') w') : if Region.wanted o (yielded ops a.tmps) = true then Oper.wp Try.prog o a w K Q else E := by
  have hw : Region.wanted o (yielded ops a.tmps) = true := by simp [Region.wanted, hgd]
  rw [if_pos hw]
  obtain ⟨i0, hi, hz0, hz1, hz2⟩ := info_parts mat_infoQ
  rcases src with _ | ad
  · have hc := hb.nl rfl
    have hm : m = 0 := by have := hb.cap; omega
    subst hm
    subst hc
    have hy : ys = [] := List.eq_nil_of_length_eq_zero hb.len
    subst hy
    have hrun := run_append_owned_none (P := Try.prog) (w := w) base 31 o.type 33 i0 3 Try.underlying31 hi v n (mcells xs) hown
    unfold Oper.wp
    simp [execOp, ho, resolve, invoke, builtin, hs, hx, hrun, Result.andThen]
    exact h v w (by simpa using hown) (World.grownBy.refl _ _)
  · obtain ⟨v', w', hr, h2, h3, _, _⟩ := run_append_own_at (P := Try.prog) w base 31 o.type 33 i0 _ 3 40 Try.underlying31 hi hz0 hz1 hz2 rfl (by decide) v n (mcells xs) hown ad m c (mcells ys) (by rw [mcells_len, hb.len]) hb.src (mcells_all _) (by unfold maxLen; omega) h63 hbase
    unfold Oper.wp execOp
    simp only [ho, resolve, invoke, builtin, Sem.run_bind, Sem.run_pure, Result.andThen_ok, List.map_toArray, List.map_cons, List.map_nil, hs, hx, hr]
    exact h v' w' (by rw [mcells_app]; exact h2) h3

theorem ib_orf {L : Nat → Bool} {i j : Nat} (h : (L j || decide (j = i)) = false) : L j = false := by
  cases e : L j with
  | false => rfl
  | true => rw [e] at h; cases h
/-- what holds while one matcher more is put behind the others, in whatever order -/
structure I4 (w5 : World) (t3 p7 : Nat) (a : Option Addr) (n c : Nat) (ms : List Mat) (m : Mat) (L : Nat → Bool) (V : Nat → Value) (w : World) : Prop where
  below : Below w5.heap.size w5 w
  v1 : L 1 = true → V 1 = .pointer (some ⟨t3, 2, none⟩)
  v2 : L 2 = true → V 2 = .slice a n c
  v4 : L 4 = true → V 4 = .agg #[.string m.1, .int .i64 m.2.1, .string m.2.2]
  v7 : L 7 = true → V 7 = .pointer (some ⟨p7, 2, none⟩)
  v0 : L 0 = true → L 3 = false → w.ownsRow w5.heap.size 33 3 (V 0) 0 (mcells [])
  v3 : L 3 = true → L 6 = false → w.ownsRow w5.heap.size 33 3 (V 3) n (mcells ms)
  v5 : L 5 = true → L 6 = false → ∃ g, V 5 = .slice (some ⟨g, 0, none⟩) 1 1 ∧ MatsAt w (some ⟨g, 0, none⟩) 1 1 [m]
  ap : L 0 = true → L 5 = true → L 3 = false → L 6 = false → ∀ g, V 5 = .slice (some ⟨g, 0, none⟩) 1 1 → (V 0).ownBlock ≠ some g
  v6 : L 6 = true → w.ownsRow w5.heap.size 33 3 (V 6) (n + 1) (mcells (ms ++ [m]))
  d1 : L 2 = true → L 1 = true
  d2 : L 3 = true → L 0 = true ∧ L 2 = true
  d3 : L 5 = true → L 4 = true
  d4 : L 6 = true → L 3 = true ∧ L 5 = true
def Inv4 (w5 : World) (t3 p7 : Nat) (a : Option Addr) (n c : Nat) (ms : List Mat) (m : Mat) (L : Nat → Bool) (V : Nat → Value) (w : World) : Prop :=
  (L 8 = false ∧ I4 w5 t3 p7 a n c ms m L V w) ∨ ((∀ i, i < 9 → L i = true) ∧ ∃ w6 a' c', Below w5.heap.size w5 w6 ∧ w6.ownsRow w5.heap.size 33 3 (.slice a' (n + 1) c') (n + 1) (mcells (ms ++ [m])) ∧ w = w6.setCell ⟨p7, 2, none⟩ (.slice a' (n + 1) c'))
theorem Inv4.start (w5 : World) (t3 p7 : Nat) (a : Option Addr) (n c : Nat) (ms : List Mat) (m : Mat) (V : Nat → Value) : Inv4 w5 t3 p7 a n c ms m (fun _ => false) V w5.drew :=
  .inl ⟨rfl, (Below.refl _ _).drew, fun h => Bool.noConfusion h, fun h => Bool.noConfusion h, fun h => Bool.noConfusion h, fun h => Bool.noConfusion h, fun h _ => Bool.noConfusion h, fun h _ => Bool.noConfusion h, fun h _ => Bool.noConfusion h, fun h _ _ _ => Bool.noConfusion h, fun h => Bool.noConfusion h, fun h => Bool.noConfusion h, fun h => Bool.noConfusion h, fun h => Bool.noConfusion h, fun h => Bool.noConfusion h⟩
theorem I4.op1 {w5 w : World} {t3 p7 : Nat} {a : Option Addr} {n c : Nat} {ms : List Mat} {m : Mat} {L : Nat → Bool} {V : Nat → Value} (H : I4 w5 t3 p7 a n c ms m L V w) : I4 w5 t3 p7 a n c ms m (fun j => L j || decide (j = 1)) (upd V 1 (.pointer (some ⟨t3, 2, none⟩))) w :=
  ⟨H.below, fun _ => by rw [ib_eq], fun h => by rw [ib_ne (by decide)]; exact H.v2 (ib_or h (by decide)), fun h => by rw [ib_ne (by decide)]; exact H.v4 (ib_or h (by decide)), fun h => by rw [ib_ne (by decide)]; exact H.v7 (ib_or h (by decide)), fun h h' => by rw [ib_ne (by decide)]; exact H.v0 (ib_or h (by decide)) (ib_orf h'), fun h h' => by rw [ib_ne (by decide)]; exact H.v3 (ib_or h (by decide)) (ib_orf h'), fun h h' => by rw [ib_ne (by decide)]; exact H.v5 (ib_or h (by decide)) (ib_orf h'), fun h h' h'' h3' => by rw [ib_ne (by decide), ib_ne (by decide)]; exact H.ap (ib_or h (by decide)) (ib_or h' (by decide)) (ib_orf h'') (ib_orf h3'), fun h => by rw [ib_ne (by decide)]; exact H.v6 (ib_or h (by decide)), fun h => by rw [H.d1 (ib_or h (by decide)), Bool.true_or], fun h => ⟨by rw [(H.d2 (ib_or h (by decide))).1, Bool.true_or], by rw [(H.d2 (ib_or h (by decide))).2, Bool.true_or]⟩, fun h => by rw [H.d3 (ib_or h (by decide)), Bool.true_or], fun h => ⟨by rw [(H.d4 (ib_or h (by decide))).1, Bool.true_or], by rw [(H.d4 (ib_or h (by decide))).2, Bool.true_or]⟩⟩
theorem I4.op2 {w5 w : World} {t3 p7 : Nat} {a : Option Addr} {n c : Nat} {ms : List Mat} {m : Mat} {L : Nat → Bool} {V : Nat → Value} (H : I4 w5 t3 p7 a n c ms m L V w) (h1 : L 1 = true) : I4 w5 t3 p7 a n c ms m (fun j => L j || decide (j = 2)) (upd V 2 (.slice a n c)) w :=
  ⟨H.below, fun h => by rw [ib_ne (by decide)]; exact H.v1 (ib_or h (by decide)), fun _ => by rw [ib_eq], fun h => by rw [ib_ne (by decide)]; exact H.v4 (ib_or h (by decide)), fun h => by rw [ib_ne (by decide)]; exact H.v7 (ib_or h (by decide)), fun h h' => by rw [ib_ne (by decide)]; exact H.v0 (ib_or h (by decide)) (ib_orf h'), fun h h' => by rw [ib_ne (by decide)]; exact H.v3 (ib_or h (by decide)) (ib_orf h'), fun h h' => by rw [ib_ne (by decide)]; exact H.v5 (ib_or h (by decide)) (ib_orf h'), fun h h' h'' h3' => by rw [ib_ne (by decide), ib_ne (by decide)]; exact H.ap (ib_or h (by decide)) (ib_or h' (by decide)) (ib_orf h'') (ib_orf h3'), fun h => by rw [ib_ne (by decide)]; exact H.v6 (ib_or h (by decide)), fun _ => by rw [h1, Bool.true_or], fun h => ⟨by rw [(H.d2 (ib_or h (by decide))).1, Bool.true_or], by rw [(H.d2 (ib_or h (by decide))).2, Bool.true_or]⟩, fun h => by rw [H.d3 (ib_or h (by decide)), Bool.true_or], fun h => ⟨by rw [(H.d4 (ib_or h (by decide))).1, Bool.true_or], by rw [(H.d4 (ib_or h (by decide))).2, Bool.true_or]⟩⟩
theorem I4.op4 {w5 w : World} {t3 p7 : Nat} {a : Option Addr} {n c : Nat} {ms : List Mat} {m : Mat} {L : Nat → Bool} {V : Nat → Value} (H : I4 w5 t3 p7 a n c ms m L V w) : I4 w5 t3 p7 a n c ms m (fun j => L j || decide (j = 4)) (upd V 4 (.agg #[.string m.1, .int .i64 m.2.1, .string m.2.2])) w :=
  ⟨H.below, fun h => by rw [ib_ne (by decide)]; exact H.v1 (ib_or h (by decide)), fun h => by rw [ib_ne (by decide)]; exact H.v2 (ib_or h (by decide)), fun _ => by rw [ib_eq], fun h => by rw [ib_ne (by decide)]; exact H.v7 (ib_or h (by decide)), fun h h' => by rw [ib_ne (by decide)]; exact H.v0 (ib_or h (by decide)) (ib_orf h'), fun h h' => by rw [ib_ne (by decide)]; exact H.v3 (ib_or h (by decide)) (ib_orf h'), fun h h' => by rw [ib_ne (by decide)]; exact H.v5 (ib_or h (by decide)) (ib_orf h'), fun h h' h'' h3' => by rw [ib_ne (by decide), ib_ne (by decide)]; exact H.ap (ib_or h (by decide)) (ib_or h' (by decide)) (ib_orf h'') (ib_orf h3'), fun h => by rw [ib_ne (by decide)]; exact H.v6 (ib_or h (by decide)), fun h => by rw [H.d1 (ib_or h (by decide)), Bool.true_or], fun h => ⟨by rw [(H.d2 (ib_or h (by decide))).1, Bool.true_or], by rw [(H.d2 (ib_or h (by decide))).2, Bool.true_or]⟩, fun h => by rw [H.d3 (ib_or h (by decide)), Bool.true_or], fun h => ⟨by rw [(H.d4 (ib_or h (by decide))).1, Bool.true_or], by rw [(H.d4 (ib_or h (by decide))).2, Bool.true_or]⟩⟩
theorem I4.op7 {w5 w : World} {t3 p7 : Nat} {a : Option Addr} {n c : Nat} {ms : List Mat} {m : Mat} {L : Nat → Bool} {V : Nat → Value} (H : I4 w5 t3 p7 a n c ms m L V w) : I4 w5 t3 p7 a n c ms m (fun j => L j || decide (j = 7)) (upd V 7 (.pointer (some ⟨p7, 2, none⟩))) w :=
  ⟨H.below, fun h => by rw [ib_ne (by decide)]; exact H.v1 (ib_or h (by decide)), fun h => by rw [ib_ne (by decide)]; exact H.v2 (ib_or h (by decide)), fun h => by rw [ib_ne (by decide)]; exact H.v4 (ib_or h (by decide)), fun _ => by rw [ib_eq], fun h h' => by rw [ib_ne (by decide)]; exact H.v0 (ib_or h (by decide)) (ib_orf h'), fun h h' => by rw [ib_ne (by decide)]; exact H.v3 (ib_or h (by decide)) (ib_orf h'), fun h h' => by rw [ib_ne (by decide)]; exact H.v5 (ib_or h (by decide)) (ib_orf h'), fun h h' h'' h3' => by rw [ib_ne (by decide), ib_ne (by decide)]; exact H.ap (ib_or h (by decide)) (ib_or h' (by decide)) (ib_orf h'') (ib_orf h3'), fun h => by rw [ib_ne (by decide)]; exact H.v6 (ib_or h (by decide)), fun h => by rw [H.d1 (ib_or h (by decide)), Bool.true_or], fun h => ⟨by rw [(H.d2 (ib_or h (by decide))).1, Bool.true_or], by rw [(H.d2 (ib_or h (by decide))).2, Bool.true_or]⟩, fun h => by rw [H.d3 (ib_or h (by decide)), Bool.true_or], fun h => ⟨by rw [(H.d4 (ib_or h (by decide))).1, Bool.true_or], by rw [(H.d4 (ib_or h (by decide))).2, Bool.true_or]⟩⟩
theorem I4.op0 {w5 w : World} {t3 p7 : Nat} {a : Option Addr} {n c : Nat} {ms : List Mat} {m : Mat} {L : Nat → Bool} {V : Nat → Value} (H : I4 w5 t3 p7 a n c ms m L V w) (hL : L 0 = false) : I4 w5 t3 p7 a n c ms m (fun j => L j || decide (j = 0)) (upd V 0 (.slice (some ⟨w.heap.size, 0, none⟩) 0 0)) (w.alloc (.cells #[] 33)) := by
  have hb : Below w.heap.size w (w.alloc (.cells #[] 33)) := (Below.refl _ _).alloc (Nat.le_refl _) _
  have h3f : L 3 = false := by cases e : L 3 with | false => rfl | true => have := (H.d2 e).1; rw [hL] at this; cases this
  refine ⟨H.below.trans (hb.mono H.below.size), fun h => by rw [ib_ne (by decide)]; exact H.v1 (ib_or h (by decide)), fun h => by rw [ib_ne (by decide)]; exact H.v2 (ib_or h (by decide)), fun h => by rw [ib_ne (by decide)]; exact H.v4 (ib_or h (by decide)), fun h => by rw [ib_ne (by decide)]; exact H.v7 (ib_or h (by decide)), fun _ _ => by rw [ib_eq]; exact World.ownsRow_lit (base := w5.heap.size) (e := 33) (size := 3) w #[] 0 H.below.size (by unfold maxLen; omega) rfl, fun h h' => by rw [ib_ne (by decide)]; exact own_below (H.v3 (ib_or h (by decide)) (ib_orf h')) hb, fun h h' => ?_, fun h h' h'' h3' g hg => ?_, fun h => by rw [ib_ne (by decide)]; exact own_below (H.v6 (ib_or h (by decide))) hb, fun h => by rw [H.d1 (ib_or h (by decide)), Bool.true_or], fun h => ⟨by rw [(H.d2 (ib_or h (by decide))).1, Bool.true_or], by rw [(H.d2 (ib_or h (by decide))).2, Bool.true_or]⟩, fun h => by rw [H.d3 (ib_or h (by decide)), Bool.true_or], fun h => ⟨by rw [(H.d4 (ib_or h (by decide))).1, Bool.true_or], by rw [(H.d4 (ib_or h (by decide))).2, Bool.true_or]⟩⟩
  · rw [ib_ne (by decide)]
    obtain ⟨g, hg, hm⟩ := H.v5 (ib_or h (by decide)) (ib_orf h')
    exact ⟨g, hg, hm.kept hb⟩
  · rw [ib_ne (by decide)] at hg
    rw [ib_eq]
    obtain ⟨g', hg', hm⟩ := H.v5 (ib_or h' (by decide)) (ib_orf h3')
    rw [hg'] at hg
    cases hg
    obtain ⟨b, off, he, hlt, _⟩ := hm.cells (by omega)
    cases he
    intro e
    have h2 : w.heap.size = _ := Option.some.inj e
    rw [← h2] at hlt
    exact Nat.lt_irrefl _ hlt
theorem I4.op5 {w5 w : World} {t3 p7 : Nat} {a : Option Addr} {n c : Nat} {ms : List Mat} {m : Mat} {L : Nat → Bool} {V : Nat → Value} (H : I4 w5 t3 p7 a n c ms m L V w) (hL : L 5 = false) (h4 : L 4 = true) (hs : m.1.size ≤ 140737488355328 ∧ m.2.2.size ≤ 140737488355328) : I4 w5 t3 p7 a n c ms m (fun j => L j || decide (j = 5)) (upd V 5 (.slice (some ⟨w.heap.size, 0, none⟩) 1 1)) (w.alloc (.cells #[.string m.1, .int .i64 m.2.1, .string m.2.2] 33)) := by
  have hb : Below w.heap.size w (w.alloc (.cells #[.string m.1, .int .i64 m.2.1, .string m.2.2] 33)) := (Below.refl _ _).alloc (Nat.le_refl _) _
  refine ⟨H.below.trans (hb.mono H.below.size), fun h => by rw [ib_ne (by decide)]; exact H.v1 (ib_or h (by decide)), fun h => by rw [ib_ne (by decide)]; exact H.v2 (ib_or h (by decide)), fun h => by rw [ib_ne (by decide)]; exact H.v4 (ib_or h (by decide)), fun h => by rw [ib_ne (by decide)]; exact H.v7 (ib_or h (by decide)), fun h h' => by rw [ib_ne (by decide)]; exact own_below (H.v0 (ib_or h (by decide)) (ib_orf h')) hb, fun h h' => by rw [ib_ne (by decide)]; exact own_below (H.v3 (ib_or h (by decide)) (ib_orf h')) hb, fun _ _ => by rw [ib_eq]; exact ⟨_, rfl, mats_oneQ w m hs⟩, fun h h' h'' h3' g hg => ?_, fun h => by rw [ib_ne (by decide)]; exact own_below (H.v6 (ib_or h (by decide))) hb, fun h => by rw [H.d1 (ib_or h (by decide)), Bool.true_or], fun h => ⟨by rw [(H.d2 (ib_or h (by decide))).1, Bool.true_or], by rw [(H.d2 (ib_or h (by decide))).2, Bool.true_or]⟩, fun _ => by rw [h4, Bool.true_or], fun h => ⟨by rw [(H.d4 (ib_or h (by decide))).1, Bool.true_or], by rw [(H.d4 (ib_or h (by decide))).2, Bool.true_or]⟩⟩
  rw [ib_eq] at hg
  rw [ib_ne (by decide)]
  cases hg
  have ho := H.v0 (ib_or h (by decide)) (ib_orf h'')
  intro e
  have := (ho.lt _ e).2
  omega
theorem I4.op3 {w5 w : World} {t3 p7 : Nat} {a : Option Addr} {n c : Nat} {ms : List Mat} {m : Mat} {L : Nat → Bool} {V : Nat → Value} (H : I4 w5 t3 p7 a n c ms m L V w) (h0 : L 0 = true) (h2 : L 2 = true) (hL : L 3 = false) {v' : Value} {w' : World} (ho : w'.ownsRow w5.heap.size 33 3 v' n (mcells ms)) (hg : w.grownBy w' (V 0).ownBlock) : I4 w5 t3 p7 a n c ms m (fun j => L j || decide (j = 3)) (upd V 3 (v')) w' := by
  have h6f : L 6 = false := by cases e : L 6 with | false => rfl | true => have := (H.d4 e).1; rw [hL] at this; cases this
  refine ⟨H.below.grown hg H.below.size (fun k hk => ((H.v0 h0 hL).lt k hk).1), fun h => by rw [ib_ne (by decide)]; exact H.v1 (ib_or h (by decide)), fun h => by rw [ib_ne (by decide)]; exact H.v2 (ib_or h (by decide)), fun h => by rw [ib_ne (by decide)]; exact H.v4 (ib_or h (by decide)), fun h => by rw [ib_ne (by decide)]; exact H.v7 (ib_or h (by decide)), fun h h' => absurd h' (by simp), fun _ _ => by rw [ib_eq]; exact ho, fun h h' => ?_, fun h h' h'' => absurd h'' (by simp), fun h => absurd (ib_or h (by decide)) (by rw [h6f]; decide), fun h => by rw [H.d1 (ib_or h (by decide)), Bool.true_or], fun _ => ⟨by rw [h0, Bool.true_or], by rw [h2, Bool.true_or]⟩, fun h => by rw [H.d3 (ib_or h (by decide)), Bool.true_or], fun h => ⟨by rw [(H.d4 (ib_or h (by decide))).1, Bool.true_or], by rw [(H.d4 (ib_or h (by decide))).2, Bool.true_or]⟩⟩
  rw [ib_ne (by decide)]
  obtain ⟨g, hv, hm⟩ := H.v5 (ib_or h (by decide)) (ib_orf h')
  refine ⟨g, hv, hm.grown hg fun _ b off he => ?_⟩
  cases he
  exact fun e => H.ap h0 (ib_or h (by decide)) hL h6f g hv e.symm
theorem I4.op6 {w5 w : World} {t3 p7 : Nat} {a : Option Addr} {n c : Nat} {ms : List Mat} {m : Mat} {L : Nat → Bool} {V : Nat → Value} (H : I4 w5 t3 p7 a n c ms m L V w) (h3 : L 3 = true) (h5 : L 5 = true) (hL : L 6 = false) {v' : Value} {w' : World} (ho : w'.ownsRow w5.heap.size 33 3 v' (n + 1) (mcells (ms ++ [m]))) (hg : w.grownBy w' (V 3).ownBlock) : I4 w5 t3 p7 a n c ms m (fun j => L j || decide (j = 6)) (upd V 6 (v')) w' :=
  ⟨H.below.grown hg H.below.size (fun k hk => ((H.v3 h3 hL).lt k hk).1), fun h => by rw [ib_ne (by decide)]; exact H.v1 (ib_or h (by decide)), fun h => by rw [ib_ne (by decide)]; exact H.v2 (ib_or h (by decide)), fun h => by rw [ib_ne (by decide)]; exact H.v4 (ib_or h (by decide)), fun h => by rw [ib_ne (by decide)]; exact H.v7 (ib_or h (by decide)), fun h h' => absurd (ib_orf h') (by rw [h3]; decide), fun _ h' => absurd h' (by simp), fun _ h' => absurd h' (by simp), fun _ _ _ h' => absurd h' (by simp), fun _ => by rw [ib_eq]; exact ho, fun h => by rw [H.d1 (ib_or h (by decide)), Bool.true_or], fun h => ⟨by rw [(H.d2 (ib_or h (by decide))).1, Bool.true_or], by rw [(H.d2 (ib_or h (by decide))).2, Bool.true_or]⟩, fun h => by rw [H.d3 (ib_or h (by decide)), Bool.true_or], fun _ => ⟨by rw [h3, Bool.true_or], by rw [h5, Bool.true_or]⟩⟩
theorem Inv4.other {w5 w : World} {t3 p7 : Nat} {a : Option Addr} {n c : Nat} {ms : List Mat} {m : Mat} {L : Nat → Bool} {V : Nat → Value} (h : Inv4 w5 t3 p7 a n c ms m L V w) {i : Nat} (hi : i < 9) (hL : L i = false) : L 8 = false ∧ I4 w5 t3 p7 a n c ms m L V w := by
  rcases h with h | ⟨h, _⟩
  · exact h
  · have := h i hi
    rw [hL] at this; cases this
theorem Inv4.put {w5 w' : World} {t3 p7 : Nat} {a : Option Addr} {n c : Nat} {ms : List Mat} {m : Mat} {L : Nat → Bool} {V' : Nat → Value} {i : Nat} (h8 : L 8 = false) (hi : i ≠ 8) (h : I4 w5 t3 p7 a n c ms m (fun j => L j || decide (j = i)) V' w') : Inv4 w5 t3 p7 a n c ms m (fun j => L j || decide (j = i)) V' w' :=
  .inl ⟨by show (L 8 || decide (8 = i)) = false; rw [h8, decide_eq_false (fun e => hi e.symm)]; rfl, h⟩
end Go.Proofs.Ytmnfdkclkjeggaa
