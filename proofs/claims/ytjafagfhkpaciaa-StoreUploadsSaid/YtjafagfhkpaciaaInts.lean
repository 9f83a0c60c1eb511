/- Slices of integers of one kind, as walks are told of them: wherever they lie; what the call owns; appended to each other. -/
import Derived.Test.YtjafagfhkpaciaaOwn
namespace Go.Proofs.Ytjafagfhkpaciaa
open Go.RowKit
set_option linter.unusedVariables false

def iv (k : IntKind) (l : List Int) : List Value := l.map fun z => Value.int k z
theorem iv_length (k : IntKind) (l : List Int) : (iv k l).length = l.length := by simp [iv]
theorem iv_append (k : IntKind) (l r : List Int) : iv k (l ++ r) = iv k l ++ iv k r := by simp [iv]
theorem iv_get (k : IntKind) (l : List Int) (i : Nat) (h : i < l.length) : (iv k l)[i]? = some (Value.int k (l.getD i 0)) := by simp [iv, h]
theorem iv_set (k : IntKind) (l : List Int) (i : Nat) (z : Int) : (iv k l).set i (.int k z) = iv k (l.set i z) := by simp [iv, List.map_set]
theorem iv_oneCell (k : IntKind) (l : List Int) : ∀ u ∈ iv k l, u.oneCell' = true := by
  intro u hu
  simp only [iv, List.mem_map] at hu
  obtain ⟨x, _, rfl⟩ := hu
  rfl

/-- a slice of integers: whatever its address where it has none -/
structure IntsAt (k : IntKind) (w : World) (a : Option Addr) (n c : Nat) (zs : List Int) : Prop where
  len : zs.length = n
  cap : n ≤ c
  wf : ∀ z ∈ zs, (Lit.int k z).wf = true
  capm : c ≤ 9223372036854775807
  nl : a = none → c = 0
  cells : 0 < n → ∃ b off, a = some ⟨b, off, none⟩ ∧ b < w.heap.size ∧ ∀ i, i < n → w.cell? ⟨b, off + i, none⟩ = some (.int k (zs.getD i 0))

theorem IntsAt.keep {k : IntKind} {w w' : World} {a : Option Addr} {n c : Nat} {zs : List Int} (h : IntsAt k w a n c zs) {B : Nat} (hb : Below B w w') (hB : w.heap.size ≤ B) : IntsAt k w' a n c zs :=
  ⟨h.len, h.cap, h.wf, h.capm, h.nl, fun hn => by
    obtain ⟨b, off, ha, hlt, hc⟩ := h.cells hn
    exact ⟨b, off, ha, Nat.lt_of_lt_of_le hlt hb.size, fun i hi => (hb.cell (p := ⟨b, off + i, none⟩) (Nat.lt_of_lt_of_le hlt hB)).trans (hc i hi)⟩⟩
theorem IntsAt.kept {k : IntKind} {w w' : World} {a : Option Addr} {n c : Nat} {zs : List Int} (h : IntsAt k w a n c zs) (hb : Below w.heap.size w w') : IntsAt k w' a n c zs := h.keep hb (Nat.le_refl _)
theorem IntsAt.alloc {k : IntKind} {w : World} {a : Option Addr} {n c : Nat} {zs : List Int} (h : IntsAt k w a n c zs) (o : Obj) : IntsAt k (w.alloc o) a n c zs := h.kept ((Below.refl _ _).alloc (Nat.le_refl _) o)
theorem IntsAt.empty (k : IntKind) (w : World) (a : Option Addr) (c : Nat) (hc : c ≤ 9223372036854775807) (ha : a = none → c = 0) : IntsAt k w a 0 c [] :=
  ⟨rfl, Nat.zero_le _, (fun x hx => by cases hx), hc, ha, fun h => absurd h (Nat.lt_irrefl 0)⟩

theorem IntsAt.src {k : IntKind} {w : World} {ad : Addr} {n c : Nat} {zs : List Int} (h : IntsAt k w (some ad) n c zs) : ∀ j u, (iv k zs)[j]? = some u → w.cell? (ad.add j) = some u := by
  intro j u hj
  have hlt : j < zs.length := by
    rcases Nat.lt_or_ge j zs.length with g | g
    · exact g
    · rw [List.getElem?_eq_none (by rw [iv_length]; exact g)] at hj; cases hj
  have hl := h.len
  obtain ⟨b, off, ha, _, hc⟩ := h.cells (by omega)
  cases ha
  have h4 : (⟨b, off, none⟩ : Addr).add j = ⟨b, off + j, none⟩ := by unfold Addr.add; split <;> simp_all
  rw [h4, hc j (by omega), ← iv_get k zs j hlt, hj]

theorem IsRow.ints {k : IntKind} {s : Nat} {w : World} {a : Option Addr} {len cap : Nat} {zs : List Int} (h : IsRow k s w a len cap zs) : IntsAt k w a len cap (zs.take len) := by
  rcases h with ⟨rfl, rfl, rfl, rfl⟩ | ⟨x, rfl, hl, hm, hz, hcell, hwz, hr⟩
  · exact IntsAt.empty k w none 0 (by omega) (fun _ => rfl)
  · refine ⟨by simp; omega, hl, fun z hz => hwz z (List.mem_of_mem_take hz), by unfold maxLen at hm; exact hm, (fun e => by cases e), fun hp => ?_⟩
    obtain ⟨b, off, spot⟩ := x
    have hc := hcell 0 (by omega)
    have hspot : spot = none := by simpa [Addr.add] using World.cell?_spot hc
    subst hspot
    refine ⟨b, off, rfl, ?_, fun i hi => ?_⟩
    · have := World.block_lt_of_cell? w _ hc
      simpa [Addr.add] using this
    · have h1 := hcell i (by omega)
      have h4 : (⟨b, off, none⟩ : Addr).add i = ⟨b, off + i, none⟩ := by unfold Addr.add; split <;> simp_all
      rw [h4] at h1
      rw [h1]
      have h2 : i < zs.length := by omega
      simp [hi, h2]
theorem IsRow.reach {k : IntKind} {s : Nat} {w : World} {a : Option Addr} {len cap : Nat} {zs : List Int} (h : IsRow k s w a len cap zs) : len * s ≤ 140737488351232 := by
  rcases h with ⟨rfl, rfl, rfl, rfl⟩ | ⟨x, rfl, hl, hm, hz, hcell, hwz, hr⟩
  · omega
  · exact Nat.le_trans (Nat.mul_le_mul_right _ hl) hr

theorem IntsAt.ofOwn {k : IntKind} {w : World} {base n : Nat} {e : TypeId} {v : Value} {zs : List Int} (h : w.ownsRow base e 1 v n (iv k zs)) (hb : ∀ z ∈ zs, (Lit.int k z).wf = true) :
    ∃ a c, v = .slice a n c ∧ IntsAt k w a n c zs ∧ (∀ b off s, a = some ⟨b, off, s⟩ → base ≤ b) := by
  have hl : zs.length = n := by have := h.1; simpa [iv_length] using this
  rcases h.2 with ⟨h1, h0⟩ | ⟨g, cap, cur, rfl, hg, hh, hn, hcap, hsz, htake⟩
  · subst h1
    subst h0
    obtain rfl : zs = [] := List.eq_nil_of_length_eq_zero hl
    exact ⟨none, 0, rfl, IntsAt.empty k _ _ _ (by omega) (fun _ => rfl), fun _ _ _ e => by cases e⟩
  · have hlt : g < w.heap.size := (Array.getElem?_eq_some_iff.1 hh).1
    refine ⟨some ⟨g, 0, none⟩, cap, rfl, ⟨hl, hn, hb, (by unfold maxLen at hcap; exact hcap), (fun e => by cases e), fun hp => ⟨g, 0, rfl, hlt, fun i hi => ?_⟩⟩, fun b off s e => by cases e; exact hg⟩
    have := h.cellAt i (by omega)
    rw [Nat.zero_add, this, iv_get _ _ _ (by omega)]

/-- what is owned, seen at its own address -/
theorem IntsAt.own {k : IntKind} {w : World} {base n c : Nat} {e : TypeId} {a : Option Addr} {zs : List Int} (h : w.ownsRow base e 1 (.slice a n c) n (iv k zs)) (hb : ∀ z ∈ zs, (Lit.int k z).wf = true) : IntsAt k w a n c zs := by
  obtain ⟨a', c', he, hi, _⟩ := IntsAt.ofOwn h hb
  simp only [Value.slice.injEq, true_and] at he
  obtain ⟨rfl, rfl⟩ := he
  exact hi

/-- append of integers, wherever they lie, to integers that the call owns -/
theorem wpList_append_ints {k : IntKind} {t e : TypeId} {by_ : Nat} (ht : Try.prog.underlying t = some (.slice e)) (hinfo : (Try.prog.info? e).map (fun i => (i.zero, i.size, i.bytes)) = some (some (.int k 0), 1, by_))
    {w : World} {ops : Array Oper} {rest : List Oper} {o : Oper} {a : Act} {Q : Exit → Act → World → Prop} (hgd : o.guard = none) (s x : Operand)
    (ho : o.op = .call { callee := .builtin .append, args := #[s, x], argTypes := #[t, t] })
    (base : Nat) (v : Value) (n : Nat) (xs : List Int) (hs : a.eval s = v) (hown : w.ownsRow base e 1 v n (iv k xs))
    (src : Option Addr) (m c : Nat) (ys : List Int) (hx : a.eval x = .slice src m c) (hb : IntsAt k w src m c ys)
    (h63 : (n + m) * by_ ≤ 140737488355328) (hnm : n + m ≤ 140737488355328) (hbase : base ≤ w.heap.size)
    (h : ∀ v' w', w'.ownsRow base e 1 v' (n + m) (iv k (xs ++ ys)) → w.grownBy w' v.ownBlock → wpList Try.prog ops Q rest (a.put o.dst v') w') : wpList Try.prog ops Q (o :: rest) a w := by
  obtain ⟨i0, hi, hz0, hz1, hz2⟩ := info_parts hinfo
  rcases src with _ | ad
  · have hc := hb.nl rfl
    have hm : m = 0 := by have := hb.cap; omega
    subst hm
    subst hc
    have hy : ys = [] := List.eq_nil_of_length_eq_zero hb.len
    subst hy
    refine wpList_append_own_none hgd s x t ho base e i0 1 ht hi v n (iv k xs) hs hown hx ?_
    exact h v w (by simpa using hown) (World.grownBy.refl _ _)
  · refine wpList_append_own w hgd s x t ho base e i0 (.int k 0) 1 by_ ht hi hz0 hz1 hz2 rfl (by decide) v n (iv k xs) hs hown ad m c (iv k ys) hx (by rw [iv_length, hb.len]; omega) hb.src (iv_oneCell _ _) (by unfold maxLen; omega) h63 hbase ?_
    intro v' w' h1 h2 _
    exact h v' w' (by rw [iv_append]; exact h1) h2
end Go.Proofs.Ytjafagfhkpaciaa
