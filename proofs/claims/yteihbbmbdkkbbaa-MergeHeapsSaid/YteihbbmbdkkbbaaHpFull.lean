/- Append of integers to a slice that has no room: what comes of it lies in new memory. -/
import Derived.Test.YteihbbmbdkkbbaaHpPop
import Derived.Deep.Upon
import Derived.Deep.AppendSrc
namespace Go.Proofs.Yteihbbmbdkkbbaa
open Go.ChangeShapes Go.WideShapes Go.Deep Go.RowKit Hp
set_option linter.unusedVariables false

theorem iv_get (l : List Int) (i : Nat) (h : i < l.length) : (iv l)[i]? = some (.int .i64 (l.getD i 0)) := by simp [iv, h]
theorem IntsAt.srcOf {w : World} {a : Option Addr} {n c : Nat} {zs : List Int} (h : IntsAt w a n c zs) : Src Try.prog 1 27 (.slice a n c) n (iv zs) w := by
  rcases a with _ | ad
  · have hc := h.nl rfl
    have hn := h.cap
    obtain rfl : n = 0 := by omega
    obtain rfl : zs = [] := List.eq_nil_of_length_eq_zero h.len
    exact Src.ofNil w Try.underlying27 c
  · exact Src.ofSlice w Try.underlying27 ad n c (iv zs) (by rw [iv_length, h.len]; omega) h.src (iv_one _)
theorem run_append_ints_full (w : World) (ty : TypeId) {a b : Option Addr} {n m c : Nat} {xs ys : List Int} (hx : IntsAt w a n n xs) (hy : IntsAt w b m c ys) (hn : n + m ≤ 1000000000) :
    ∃ a' c' w', (Builtin.append_ #[27, 27] ty #[.slice a n n, .slice b m c]).run Try.prog w = .ok (.slice a' (n + m) c') w' ∧ IntsAt w' a' (n + m) c' (xs ++ ys) ∧ Below w.heap.size w w' ∧ (0 < m → ∃ g, a' = some ⟨g, 0, none⟩ ∧ w.heap.size ≤ g ∧ g < w'.heap.size) := by
  obtain ⟨i0, hi, hz0, hz1, hz2⟩ := info_parts int_info
  have hsx := hx.srcOf
  have hsy := hy.srcOf
  rw [← hz1] at hsx hsy
  rcases Nat.eq_zero_or_pos m with rfl | hm
  · obtain rfl : ys = [] := List.eq_nil_of_length_eq_zero hy.len
    exact ⟨a, n, w, run_append_nothing w _ _ _ _ i0 Try.underlying27 hi _ _ _ (Nat.le_refl _) _ hsy, by rw [List.append_nil]; exact hx, Below.refl _ _, fun h => absurd h (Nat.lt_irrefl 0)⟩
  · have hr := run_append_grow_src w 27 27 ty 3 i0 _ Try.underlying27 hi hz0 a n n (iv xs) hsx.cellsD _ m (iv ys) hsy (by omega) (by omega) (growslice_fits (by omega) (by rw [hz2]; omega))
    generalize Builtin.zeroCells _ (grownCap w (n + m) n 3 - (n + m)) = zs at hr
    have hb : Below w.heap.size w (w.drew.alloc (.cells ((iv xs ++ iv ys).toArray ++ zs) 3)) := ((Below.refl w.heap.size w).drew).alloc (Nat.le_refl _) _
    refine ⟨_, _, _, hr, ⟨by rw [List.length_append, hx.len, hy.len], grownCap_ge w (n + m) n _, ?_, (fun e => by cases e), fun hp => ⟨w.heap.size, 0, rfl, ?_, fun i hi2 => ?_⟩⟩, hb, fun _ => ⟨_, rfl, Nat.le_refl _, (Array.getElem?_eq_some_iff.1 (heap_alloc_new w.drew _)).1⟩⟩
    · have := grownCap_le_maxLen w (n + m) n 3 (by unfold maxLen; omega)
      unfold maxLen at this; exact this
    · exact (Array.getElem?_eq_some_iff.1 (heap_alloc_new w.drew _)).1
    · have hlen : (xs ++ ys).length = n + m := by rw [List.length_append, hx.len, hy.len]
      have hcell : (iv xs ++ iv ys)[i]? = some (.int .i64 ((xs ++ ys).getD i 0)) := by
        rw [← iv_append]
        exact iv_get (xs ++ ys) i (by omega)
      have hlt := (List.getElem?_eq_some_iff.1 hcell).1
      rw [Nat.zero_add, cell_of_row _ w.heap.size _ _ _ (0, 0) (heap_alloc_new w.drew _), Array.getElem?_append_left (by simpa using hlt), List.getElem?_toArray]
      exact hcell
theorem step_append_ints_full {o : Oper} {bb : Bool} {act : Act} {w : World} {K : Act → World → Prop} {Q : Exit → Act → World → Prop} {E : Prop} (hgd : bb = true) (s x : Operand)
    (ho : o.op = .call { callee := .builtin .append, args := #[s, x], argTypes := #[27, 27] })
    {a b : Option Addr} {n m c : Nat} {xs ys : List Int} (hs : act.eval s = .slice a n n) (hx : act.eval x = .slice b m c) (HX : IntsAt w a n n xs) (HY : IntsAt w b m c ys) (hn : n + m ≤ 1000000000)
    (h : ∀ a' c' w', IntsAt w' a' (n + m) c' (xs ++ ys) → Below w.heap.size w w' → (0 < m → ∃ g, a' = some ⟨g, 0, none⟩ ∧ w.heap.size ≤ g ∧ g < w'.heap.size) → K (act.put o.dst (.slice a' (n + m) c')) w') :
    if bb = true then Oper.wp Try.prog o act w K Q else E := by
  rw [if_pos hgd]
  obtain ⟨a', c', w', hr, h1, h2, h3⟩ := run_append_ints_full w o.type HX HY hn
  unfold Oper.wp execOp
  simp only [ho, resolve, invoke, builtin, Sem.run_bind, Sem.run_pure, Result.andThen_ok, List.map_toArray, List.map_cons, List.map_nil, hs, hx, hr]
  exact h a' c' w' h1 h2 h3
end Go.Proofs.Yteihbbmbdkkbbaa
