/- append of rows to rows that fill their slice: new memory, or nothing. -/
import Derived.Test.YtmnfdkclkjeggaaQAns
import Derived.Test.YtmnfdkclkjeggaaAnyOrd
import Derived.Deep.Upon
import Derived.Deep.AppendSrc
namespace Go.Proofs.Ytmnfdkclkjeggaa
open Go.RowKit LabPlain RecPlain Stab
set_option linter.unusedVariables false

structure IB (T : TypeId) (N : Nat) (w4 : World) (cs : Array Value) (L : Nat → Bool) (V : Nat → Value) (w : World) : Prop where
  below : Below w4.heap.size w4 w
  load : ∀ j, j < N → L j = true → V j = .agg cs
  new : ∀ j, N ≤ j → j < 2 * N → L j = true → ∃ p, V j = .pointer (some ⟨p, 0, none⟩) ∧ w4.heap.size ≤ p ∧ ∃ old, w.heap[p]? = some (.cells old T (0, 0)) ∧ old.size = cs.size ∧ (L (j + N) = true → old = cs)
  apart : ∀ j k, N ≤ j → j < k → k < 2 * N → L j = true → L k = true → V j ≠ V k
  behind : ∀ j, N ≤ j → j < 2 * N → L (j + N) = true → L j = true
theorem IB.start (T : TypeId) (N : Nat) (w4 : World) (cs : Array Value) (V : Nat → Value) : IB T N w4 cs (fun _ => false) V w4.drew :=
  ⟨(Below.refl _ _).drew, (fun j _ h => Bool.noConfusion h), (fun j _ _ h => Bool.noConfusion h), (fun j k _ _ _ h => Bool.noConfusion h), (fun j _ _ h => Bool.noConfusion h)⟩
theorem ib_or {L : Nat → Bool} {i j : Nat} (h : (L j || decide (j = i)) = true) (hne : j ≠ i) : L j = true := by
  rw [decide_eq_false hne, Bool.or_false] at h; exact h
theorem ib_ne {V : Nat → Value} {i j : Nat} {x : Value} (hne : j ≠ i) : upd V i x j = V j := by unfold upd; rw [if_neg hne]
theorem ib_eq {V : Nat → Value} {i : Nat} {x : Value} : upd V i x i = x := by unfold upd; rw [if_pos rfl]
theorem IB.ld {T : TypeId} {N : Nat} {w4 w : World} {cs : Array Value} {L : Nat → Bool} {V : Nat → Value} (h : IB T N w4 cs L V w) {i : Nat} (hi : i < N) : IB T N w4 cs (fun j => L j || decide (j = i)) (upd V i (.agg cs)) w := by
  refine ⟨h.below, fun j hj hl => ?_, fun j h1 h2 hl => ?_, fun j k h1 h2 h3 hl hk => ?_, fun j h1 h2 hl => ?_⟩
  · by_cases e : j = i
    · rw [e, ib_eq]
    · rw [ib_ne e]; exact h.load j hj (ib_or hl e)
  · rw [ib_ne (by omega)]
    obtain ⟨p, hp, hg, old, hb, hs, hc⟩ := h.new j h1 h2 (ib_or hl (by omega))
    exact ⟨p, hp, hg, old, hb, hs, fun hl4 => hc (ib_or hl4 (by omega))⟩
  · rw [ib_ne (by omega), ib_ne (by omega)]
    exact h.apart j k h1 h2 h3 (ib_or hl (by omega)) (ib_or hk (by omega))
  · show (L j || decide (j = i)) = true
    rw [h.behind j h1 h2 (ib_or hl (by omega)), Bool.true_or]
theorem IB.al {T : TypeId} {N : Nat} {w4 w : World} {cs : Array Value} {L : Nat → Bool} {V : Nat → Value} (h : IB T N w4 cs L V w) {i : Nat} (hi4 : N ≤ i) (hi : i < 2 * N) (hL : L i = false) (zs : Array Value) (hz : zs.size = cs.size) : IB T N w4 cs (fun j => L j || decide (j = i)) (upd V i (.pointer (some ⟨w.heap.size, 0, none⟩))) (w.alloc (.cells zs T)) := by
  have hbl : Below w.heap.size w (w.alloc (.cells zs T)) := (Below.refl _ _).alloc (Nat.le_refl _) _
  have hsz := h.below.size
  have hold : ∀ j, N ≤ j → j < 2 * N → L j = true → V j ≠ .pointer (some ⟨w.heap.size, 0, none⟩) := fun j h1 h2 hl e => by
    obtain ⟨p, hp, _, old, hb, _⟩ := h.new j h1 h2 hl
    rw [hp] at e
    simp only [Value.pointer.injEq, Option.some.injEq, Addr.mk.injEq, and_true] at e
    have := (Array.getElem?_eq_some_iff.1 hb).1
    omega
  refine ⟨h.below.trans (hbl.mono hsz), fun j hj hl => ?_, fun j h1 h2 hl => ?_, fun j k h1 h2 h3 hl hk => ?_, fun j h1 h2 hl => ?_⟩
  · rw [ib_ne (by omega)]; exact h.load j hj (ib_or hl (by omega))
  · by_cases e : j = i
    · subst e
      rw [ib_eq]
      refine ⟨_, rfl, hsz, zs, heap_alloc_new w _, hz, fun hl4 => ?_⟩
      have := h.behind j h1 h2 (ib_or hl4 (by omega))
      rw [hL] at this; cases this
    · rw [ib_ne e]
      obtain ⟨p, hp, hg, old, hb, hs, hc⟩ := h.new j h1 h2 (ib_or hl e)
      exact ⟨p, hp, hg, old, (hbl.block p (Array.getElem?_eq_some_iff.1 hb).1).trans hb, hs, fun hl4 => hc (ib_or hl4 (by omega))⟩
  · by_cases e : j = i
    · subst e
      rw [ib_eq, ib_ne (by omega)]
      exact fun e2 => hold k (by omega) h3 (ib_or hk (by omega)) e2.symm
    · by_cases e2 : k = i
      · subst e2
        rw [ib_eq, ib_ne e]
        exact hold j h1 (by omega) (ib_or hl e)
      · rw [ib_ne e, ib_ne e2]
        exact h.apart j k h1 h2 h3 (ib_or hl e) (ib_or hk e2)
  · show (L j || decide (j = i)) = true
    rw [h.behind j h1 h2 (ib_or hl (by omega)), Bool.true_or]
theorem IB.st {T : TypeId} {N : Nat} {w4 w w' : World} {cs : Array Value} {L : Nat → Bool} {V : Nat → Value} (h : IB T N w4 cs L V w) {i p : Nat} {u : Value} (hi4 : N ≤ i) (hi : i < 2 * N) (hL : L i = true) (hp : V i = .pointer (some ⟨p, 0, none⟩)) (hge : w4.heap.size ≤ p) (hb' : w'.heap[p]? = some (.cells cs T (0, 0))) (hg : w.grownBy w' (some p)) : IB T N w4 cs (fun j => L j || decide (j = i + N)) (upd V (i + N) u) w' := by
  refine ⟨h.below.grown hg h.below.size (fun k hk => by simp only [Option.some.injEq] at hk; omega), fun j hj hl => ?_, fun j h1 h2 hl => ?_, fun j k h1 h2 h3 hl hk => ?_, fun j h1 h2 hl => ?_⟩
  · rw [ib_ne (by omega)]; exact h.load j hj (ib_or hl (by omega))
  · rw [ib_ne (by omega)]
    obtain ⟨q, hq, hqg, old, hb, hs, hc⟩ := h.new j h1 h2 (ib_or hl (by omega))
    by_cases e : j = i
    · subst e
      rw [hp] at hq
      simp only [Value.pointer.injEq, Option.some.injEq, Addr.mk.injEq, and_true] at hq
      subst hq
      exact ⟨p, hp, hge, cs, hb', rfl, fun _ => rfl⟩
    · have hne : q ≠ p := fun e2 => by
        subst e2
        rcases Nat.lt_or_ge j i with g | g
        · exact h.apart j i h1 g hi (ib_or hl (by omega)) hL (by rw [hq, hp])
        · exact h.apart i j hi4 (by omega) h2 hL (ib_or hl (by omega)) (by rw [hq, hp])
      exact ⟨q, hq, hqg, old, by rw [hg.block q (Array.getElem?_eq_some_iff.1 hb).1 (fun e2 => hne (by simpa using e2))]; exact hb, hs, fun hl4 => hc (ib_or hl4 (by omega))⟩
  · rw [ib_ne (by omega), ib_ne (by omega)]
    exact h.apart j k h1 h2 h3 (ib_or hl (by omega)) (ib_or hk (by omega))
  · show (L j || decide (j = i + N)) = true
    by_cases e : j = i
    · rw [e, hL, Bool.true_or]
    · rw [h.behind j h1 h2 (ib_or hl (by omega)), Bool.true_or]
theorem IB.done {T : TypeId} {N : Nat} {w4 w : World} {cs : Array Value} {L : Nat → Bool} {V : Nat → Value} (h : IB T N w4 cs L V w) (hall : ∀ i, i < 3 * N → L i = true) (j : Nat) (h1 : N ≤ j) (h2 : j < 2 * N) : ∃ p, V j = .pointer (some ⟨p, 0, none⟩) ∧ w4.heap.size ≤ p ∧ w.heap[p]? = some (.cells cs T (0, 0)) := by
  obtain ⟨p, hp, hg, old, hb, hs, hc⟩ := h.new j h1 h2 (hall j (by omega))
  rw [hc (hall (j + N) (by omega))] at hb
  exact ⟨p, hp, hg, hb⟩
theorem IB.two {T : TypeId} {N : Nat} {w4 w : World} {cs : Array Value} {L : Nat → Bool} {V : Nat → Value} (h : IB T N w4 cs L V w) (hall : ∀ i, i < 3 * N → L i = true) (j k : Nat) (h1 : N ≤ j) (h2 : j < k) (h3 : k < 2 * N) {p q : Nat} (hp : V j = .pointer (some ⟨p, 0, none⟩)) (hq : V k = .pointer (some ⟨q, 0, none⟩)) : p ≠ q := fun e => by
  subst e
  exact h.apart j k h1 h2 h3 (hall j (by omega)) (hall k (by omega)) (hp.trans hq.symm)
theorem ib_row (w : World) (g : Nat) (cs : Array Value) : w.grownBy (w.setRow g cs) (some g) :=
  ⟨rfl, rfl, rfl, by simp, fun k _ hk => setRow_other w g k cs (fun e => hk (by rw [e]))⟩
theorem IB.store {T : TypeId} {N : Nat} {w4 w : World} {cs : Array Value} {L : Nat → Bool} {V : Nat → Value} (h : IB T N w4 cs L V w) {i : Nat} (hi4 : N ≤ i) (hi : i < 2 * N) (hL : L i = true) (hL0 : L (i - N) = true)
    (hinfo : (Try.prog.info? T).map (·.size) = some cs.size) (hone : cs.all (·.oneCell') = true)
    {o : Oper} {act : Act} {K : Act → World → Prop} {Q : Exit → Act → World → Prop} (x y : Operand) (ho : o.op = .store T x y) (hx : act.eval x = V i) (hy : act.eval y = V (i - N))
    (hK : ∀ w2, IB T N w4 cs (fun j => L j || decide (j = i + N)) (upd V (i + N) undef) w2 → K (act.put o.dst undef) w2) : o.wp Try.prog act w K Q := by
  obtain ⟨p, hp, hge, old, hb, hs, _⟩ := h.new i hi4 hi hL
  have hv0 := h.load (i - N) (by omega) hL0
  refine wp_store_row T x y ho p cs (hx.trans hp) (hy.trans hv0) T _ hb hinfo hs hone ?_
  exact hK _ (h.st hi4 hi hL hp hge (setRow_heap w p _ _ _ _ hb) (ib_row w p _))
theorem rows_after {w w' : World} {a : Option Addr} {n c : Nat} {l : List RowV} (h : RowsAt w a n c l) (hb : Below w.heap.size w w') : RowsAt w' a n c l := h.kept hb
theorem run_append_rows_full (w : World) (ty : TypeId) {g n m c : Nat} {b : Option Addr} {xs ys : List RowV} (hx : RowsAt w (some ⟨g, 0, none⟩) n n xs) (hy : RowsAt w b m c ys) (hn : n + m ≤ 1000) :
    ∃ a' c' w', (Builtin.append_ #[47, 47] ty #[.slice (some ⟨g, 0, none⟩) n n, .slice b m c]).run Try.prog w = .ok (.slice a' (n + m) c') w' ∧ RowsAt w' a' (n + m) c' (xs ++ ys) ∧ Below w.heap.size w w' := by
  obtain ⟨i0, hi, hz0, hz1, hz2⟩ := info_parts row_info
  by_cases hm : m = 0
  · subst hm
    have hy0 : ys = [] := List.eq_nil_of_length_eq_zero hy.len
    subst hy0
    have hs : Src Try.prog i0.size 47 (.slice b 0 c) 0 [] w := by
      rcases b with _ | ad
      · obtain rfl := hy.nl rfl
        exact Src.ofNil w Try.underlying47 0
      · exact Src.ofSlice w Try.underlying47 ad 0 c [] (by simp) (fun j u hu => by simp at hu) (fun u hu => by cases hu)
    exact ⟨some ⟨g, 0, none⟩, n, w, run_append_nothing w _ _ _ _ i0 Try.underlying47 hi _ _ _ (Nat.le_refl _) _ hs, by rw [List.append_nil]; exact hx, Below.refl _ _⟩
  · rcases b with _ | ad
    · have := hy.nl rfl
      have := hy.cap
      omega
    · have hsx := Src.ofSlice (size := i0.size) w Try.underlying47 ⟨g, 0, none⟩ n n (rcells xs) (by rw [hz1, rcells_len, hx.len]) hx.src (rcells_all _)
      have hsy := Src.ofSlice (size := i0.size) w Try.underlying47 ad m c (rcells ys) (by rw [hz1, rcells_len, hy.len]) hy.src (rcells_all _)
      have hr := run_append_grow_src w 47 47 ty 51 i0 _ Try.underlying47 hi hz0 (some ⟨g, 0, none⟩) n n (rcells xs) hsx.cellsD _ m (rcells ys) hsy (by omega) (by omega) (growslice_fits (by omega) (by rw [hz2]; omega))
      generalize Builtin.zeroCells _ (grownCap w (n + m) n 51 - (n + m)) = zs at hr
      have hb : Below w.heap.size w (w.drew.alloc (.cells ((rcells xs ++ rcells ys).toArray ++ zs) 51)) := ((Below.refl w.heap.size w).drew).alloc (Nat.le_refl _) _
      refine ⟨_, _, _, hr, ?_, hb⟩
      have hX := hx.kept hb
      have hY := hy.kept hb
      refine ⟨by rw [List.length_append, hx.len, hy.len], grownCap_ge w (n + m) n _, ?_, (fun e => by cases e), fun x h => ?_, fun x h => ?_, fun hp => ⟨w.heap.size, 0, rfl, ?_, fun i hi2 j u hu => ?_⟩⟩
      · have := grownCap_le_maxLen w (n + m) n 51 (by unfold maxLen; omega)
        unfold maxLen at this; exact this
      · rcases List.mem_append.1 h with h | h
        · exact hx.fits x h
        · exact hy.fits x h
      · rcases List.mem_append.1 h with h | h
        · exact hX.labs x h
        · exact hY.labs x h
      · exact (Array.getElem?_eq_some_iff.1 (heap_alloc_new w.drew _)).1
      · have hj : j < 9 := (List.getElem?_eq_some_iff.1 hu).1
        have hlen : (xs ++ ys).length = n + m := by rw [List.length_append, hx.len, hy.len]
        have hcell : (rcells (xs ++ ys))[i * 9 + j]? = some u := by
          unfold rcells
          rw [flat_at RowV.cells 9 (fun _ => rfl) row0 (xs ++ ys) i j (by omega) hj]; exact hu
        have hlt := (List.getElem?_eq_some_iff.1 hcell).1
        rw [rcells_app] at hcell hlt
        rw [Nat.zero_add, cell_of_row _ w.heap.size _ _ _ (0, 0) (heap_alloc_new w.drew _), Array.getElem?_append_left (by simpa using hlt), List.getElem?_toArray]
        exact hcell
theorem step_append_rows_full {ops : Array Oper} {o : Oper} {a : Act} {w : World} {K : Act → World → Prop} {Q : Exit → Act → World → Prop} {E : Prop} (hgd : o.guard = none) (s x : Operand)
    (ho : o.op = .call { callee := .builtin .append, args := #[s, x], argTypes := #[47, 47] })
    {g n m c : Nat} {b : Option Addr} {xs ys : List RowV} (hs : a.eval s = .slice (some ⟨g, 0, none⟩) n n) (hx : a.eval x = .slice b m c) (HX : RowsAt w (some ⟨g, 0, none⟩) n n xs) (HY : RowsAt w b m c ys) (hn : n + m ≤ 1000)
    (h : ∀ a' c' w', RowsAt w' a' (n + m) c' (xs ++ ys) → Below w.heap.size w w' → K (a.put o.dst (.slice a' (n + m) c')) w') :
    if Region.wanted o (yielded ops a.tmps) = true then Oper.wp Try.prog o a w K Q else E := by
  have hw : Region.wanted o (yielded ops a.tmps) = true := by simp [Region.wanted, hgd]
  rw [if_pos hw]
  obtain ⟨a', c', w', hr, h1, h2⟩ := run_append_rows_full w o.type HX HY hn
  unfold Oper.wp execOp
  simp only [ho, resolve, invoke, builtin, Sem.run_bind, Sem.run_pure, Result.andThen_ok, List.map_toArray, List.map_cons, List.map_nil, hs, hx, hr]
  exact h a' c' w' h1 h2
end Go.Proofs.Ytmnfdkclkjeggaa
