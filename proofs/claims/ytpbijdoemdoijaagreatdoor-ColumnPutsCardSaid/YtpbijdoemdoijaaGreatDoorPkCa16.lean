/- Texts put together by packtpl2.py: Ints, PrefPlain, PrefKit, Repeat. -/
import Derived.Test.YtpbijdoemdoijaaGreatDoorPkCa1
import Derived.WalkKit
import Derived.Maps.AppendAt
import Derived.Deep.RegionLaw
import Derived.BigRegion
import Derived.Laws.CopyOwn
import Derived.Laws.BitsAllLaws
import Derived.Deep.OwnRows
section PkCa16_0
/- Slices of integers of one kind, as walks are told of them: wherever they lie; what the call owns; appended to each other. -/
namespace Go.Proofs.YtpbijdoemdoijaaGreatDoor
open Go.RowKit
set_option linter.unusedVariables false

def iv (k : IntKind) (l : List Int) : List Value := l.map fun z => Value.int k z
theorem iv_length (k : IntKind) (l : List Int) : (iv k l).length = l.length := by simp [iv]
theorem iv_append (k : IntKind) (l r : List Int) : iv k (l ++ r) = iv k l ++ iv k r := by simp [iv]
theorem iv_get (k : IntKind) (l : List Int) (i : Nat) (h : i < l.length) : (iv k l)[i]? = some (Value.int k (l.getD i 0)) := by simp [iv, h]
theorem iv_set (k : IntKind) (l : List Int) (i : Nat) (z : Int) : (iv k l).set i (.int k z) = iv k (l.set i z) := by simp [iv, List.map_set]
theorem iv_oneCell (k : IntKind) (l : List Int) : ∀ u ∈ iv k l, u.oneCell' = true := by
  intro u hu
  simp only [iv, List.mem_map] at hu
  obtain ⟨x, _, rfl⟩ := hu
  rfl

/-- a slice of integers: whatever its address where it has none -/
structure IntsAt (k : IntKind) (w : World) (a : Option Addr) (n c : Nat) (zs : List Int) : Prop where
  len : zs.length = n
  cap : n ≤ c
  wf : ∀ z ∈ zs, (Lit.int k z).wf = true
  capm : c ≤ 9223372036854775807
  nl : a = none → c = 0
  cells : 0 < n → ∃ b off, a = some ⟨b, off, none⟩ ∧ b < w.heap.size ∧ ∀ i, i < n → w.cell? ⟨b, off + i, none⟩ = some (.int k (zs.getD i 0))

theorem IntsAt.keep {k : IntKind} {w w' : World} {a : Option Addr} {n c : Nat} {zs : List Int} (h : IntsAt k w a n c zs) {B : Nat} (hb : Below B w w') (hB : w.heap.size ≤ B) : IntsAt k w' a n c zs :=
  ⟨h.len, h.cap, h.wf, h.capm, h.nl, fun hn => by
    obtain ⟨b, off, ha, hlt, hc⟩ := h.cells hn
    exact ⟨b, off, ha, Nat.lt_of_lt_of_le hlt hb.size, fun i hi => (hb.cell (p := ⟨b, off + i, none⟩) (Nat.lt_of_lt_of_le hlt hB)).trans (hc i hi)⟩⟩
theorem IntsAt.kept {k : IntKind} {w w' : World} {a : Option Addr} {n c : Nat} {zs : List Int} (h : IntsAt k w a n c zs) (hb : Below w.heap.size w w') : IntsAt k w' a n c zs := h.keep hb (Nat.le_refl _)
theorem IntsAt.alloc {k : IntKind} {w : World} {a : Option Addr} {n c : Nat} {zs : List Int} (h : IntsAt k w a n c zs) (o : Obj) : IntsAt k (w.alloc o) a n c zs := h.kept ((Below.refl _ _).alloc (Nat.le_refl _) o)
theorem IntsAt.empty (k : IntKind) (w : World) (a : Option Addr) (c : Nat) (hc : c ≤ 9223372036854775807) (ha : a = none → c = 0) : IntsAt k w a 0 c [] :=
  ⟨rfl, Nat.zero_le _, (fun x hx => by cases hx), hc, ha, fun h => absurd h (Nat.lt_irrefl 0)⟩

theorem IntsAt.src {k : IntKind} {w : World} {ad : Addr} {n c : Nat} {zs : List Int} (h : IntsAt k w (some ad) n c zs) : ∀ j u, (iv k zs)[j]? = some u → w.cell? (ad.add j) = some u := by
  intro j u hj
  have hlt : j < zs.length := by
    rcases Nat.lt_or_ge j zs.length with g | g
    · exact g
    · rw [List.getElem?_eq_none (by rw [iv_length]; exact g)] at hj; cases hj
  have hl := h.len
  obtain ⟨b, off, ha, _, hc⟩ := h.cells (by omega)
  cases ha
  have h4 : (⟨b, off, none⟩ : Addr).add j = ⟨b, off + j, none⟩ := by unfold Addr.add; split <;> simp_all
  rw [h4, hc j (by omega), ← iv_get k zs j hlt, hj]

theorem IsRow.ints {k : IntKind} {s : Nat} {w : World} {a : Option Addr} {len cap : Nat} {zs : List Int} (h : IsRow k s w a len cap zs) : IntsAt k w a len cap (zs.take len) := by
  rcases h with ⟨rfl, rfl, rfl, rfl⟩ | ⟨x, rfl, hl, hm, hz, hcell, hwz, hr⟩
  · exact IntsAt.empty k w none 0 (by omega) (fun _ => rfl)
  · refine ⟨by simp; omega, hl, fun z hz => hwz z (List.mem_of_mem_take hz), by unfold maxLen at hm; exact hm, (fun e => by cases e), fun hp => ?_⟩
    obtain ⟨b, off, spot⟩ := x
    have hc := hcell 0 (by omega)
    have hspot : spot = none := by simpa [Addr.add] using World.cell?_spot hc
    subst hspot
    refine ⟨b, off, rfl, ?_, fun i hi => ?_⟩
    · have := World.block_lt_of_cell? w _ hc
      simpa [Addr.add] using this
    · have h1 := hcell i (by omega)
      have h4 : (⟨b, off, none⟩ : Addr).add i = ⟨b, off + i, none⟩ := by unfold Addr.add; split <;> simp_all
      rw [h4] at h1
      rw [h1]
      have h2 : i < zs.length := by omega
      simp [hi, h2]
theorem IsRow.reach {k : IntKind} {s : Nat} {w : World} {a : Option Addr} {len cap : Nat} {zs : List Int} (h : IsRow k s w a len cap zs) : len * s ≤ 140737488351232 := by
  rcases h with ⟨rfl, rfl, rfl, rfl⟩ | ⟨x, rfl, hl, hm, hz, hcell, hwz, hr⟩
  · omega
  · exact Nat.le_trans (Nat.mul_le_mul_right _ hl) hr

theorem IntsAt.ofOwn {k : IntKind} {w : World} {base n : Nat} {e : TypeId} {v : Value} {zs : List Int} (h : w.ownsRow base e 1 v n (iv k zs)) (hb : ∀ z ∈ zs, (Lit.int k z).wf = true) :
    ∃ a c, v = .slice a n c ∧ IntsAt k w a n c zs ∧ (∀ b off s, a = some ⟨b, off, s⟩ → base ≤ b) := by
  have hl : zs.length = n := by have := h.1; simpa [iv_length] using this
  rcases h.2 with ⟨h1, h0⟩ | ⟨g, cap, cur, rfl, hg, hh, hn, hcap, hsz, htake⟩
  · subst h1
    subst h0
    obtain rfl : zs = [] := List.eq_nil_of_length_eq_zero hl
    exact ⟨none, 0, rfl, IntsAt.empty k _ _ _ (by omega) (fun _ => rfl), fun _ _ _ e => by cases e⟩
  · have hlt : g < w.heap.size := (Array.getElem?_eq_some_iff.1 hh).1
    refine ⟨some ⟨g, 0, none⟩, cap, rfl, ⟨hl, hn, hb, (by unfold maxLen at hcap; exact hcap), (fun e => by cases e), fun hp => ⟨g, 0, rfl, hlt, fun i hi => ?_⟩⟩, fun b off s e => by cases e; exact hg⟩
    have := h.cellAt i (by omega)
    rw [Nat.zero_add, this, iv_get _ _ _ (by omega)]

/-- what is owned, seen at its own address -/
theorem IntsAt.own {k : IntKind} {w : World} {base n c : Nat} {e : TypeId} {a : Option Addr} {zs : List Int} (h : w.ownsRow base e 1 (.slice a n c) n (iv k zs)) (hb : ∀ z ∈ zs, (Lit.int k z).wf = true) : IntsAt k w a n c zs := by
  obtain ⟨a', c', he, hi, _⟩ := IntsAt.ofOwn h hb
  simp only [Value.slice.injEq, true_and] at he
  obtain ⟨rfl, rfl⟩ := he
  exact hi

/-- append of integers, wherever they lie, to integers that the call owns -/
theorem wpList_append_ints {k : IntKind} {t e : TypeId} {by_ : Nat} (ht : Tryz.prog.underlying t = some (.slice e)) (hinfo : (Tryz.prog.info? e).map (fun i => (i.zero, i.size, i.bytes)) = some (some (.int k 0), 1, by_))
    {w : World} {ops : Array Oper} {rest : List Oper} {o : Oper} {a : Act} {Q : Exit → Act → World → Prop} (hgd : o.guard = none) (s x : Operand)
    (ho : o.op = .call { callee := .builtin .append, args := #[s, x], argTypes := #[t, t] })
    (base : Nat) (v : Value) (n : Nat) (xs : List Int) (hs : a.eval s = v) (hown : w.ownsRow base e 1 v n (iv k xs))
    (src : Option Addr) (m c : Nat) (ys : List Int) (hx : a.eval x = .slice src m c) (hb : IntsAt k w src m c ys)
    (h63 : (n + m) * by_ ≤ 140737488355328) (hnm : n + m ≤ 140737488355328) (hbase : base ≤ w.heap.size)
    (h : ∀ v' w', w'.ownsRow base e 1 v' (n + m) (iv k (xs ++ ys)) → w.grownBy w' v.ownBlock → wpList Tryz.prog ops Q rest (a.put o.dst v') w') : wpList Tryz.prog ops Q (o :: rest) a w := by
  obtain ⟨i0, hi, hz0, hz1, hz2⟩ := info_parts hinfo
  rcases src with _ | ad
  · have hc := hb.nl rfl
    have hm : m = 0 := by have := hb.cap; omega
    subst hm
    subst hc
    have hy : ys = [] := List.eq_nil_of_length_eq_zero hb.len
    subst hy
    refine wpList_append_own_none hgd s x t ho base e i0 1 ht hi v n (iv k xs) hs hown hx ?_
    exact h v w (by simpa using hown) (World.grownBy.refl _ _)
  · refine wpList_append_own w hgd s x t ho base e i0 (.int k 0) 1 by_ ht hi hz0 hz1 hz2 rfl (by decide) v n (iv k xs) hs hown ad m c (iv k ys) hx (by rw [iv_length, hb.len]; omega) hb.src (iv_oneCell _ _) (by unfold maxLen; omega) h63 hbase ?_
    intro v' w' h1 h2 _
    exact h v' w' (by rw [iv_append]; exact h1) h2
end Go.Proofs.YtpbijdoemdoijaaGreatDoor
end PkCa16_0
section PkCa16_1
/- Prefix codes by their lengths: symbols of a length, first words, whether they fit. No Go in sight. -/
namespace Go.Proofs.YtpbijdoemdoijaaGreatDoor.PrefPlain
open Go
set_option linter.unusedVariables false

/-- the symbols, of the first k, with words of n bits -/
def sy (L : List Int) (k n : Nat) : List Int := if n = 0 then [] else ((List.range k).filter fun s => L.getD s 0 == (n : Int)).map fun (s : Nat) => (s : Int)
theorem sy_zero (L : List Int) (k : Nat) : sy L k 0 = [] := by simp [sy]
theorem sy_start (L : List Int) (n : Nat) : sy L 0 n = [] := by unfold sy; split <;> simp
theorem sy_hit {L : List Int} {k n : Nat} (hn : 0 < n) (h : L.getD k 0 = (n : Int)) : sy L (k + 1) n = sy L k n ++ [(k : Int)] := by
  unfold sy
  rw [if_neg (by omega), if_neg (by omega), List.range_succ, List.filter_append, List.map_append]
  have : (L.getD k 0 == (n : Int)) = true := by rw [beq_iff_eq]; exact h
  rw [List.filter_cons_of_pos (by simpa using this)]
  rfl
theorem sy_miss {L : List Int} {k n : Nat} (h : L.getD k 0 ≠ (n : Int)) : sy L (k + 1) n = sy L k n := by
  unfold sy
  split
  · rfl
  · rw [List.range_succ, List.filter_append, List.map_append]
    have : (L.getD k 0 == (n : Int)) = false := by rw [beq_eq_false_iff_ne]; exact h
    rw [List.filter_cons_of_neg (by rw [this]; simp)]
    simp
theorem sy_len (L : List Int) (k n : Nat) : (sy L k n).length ≤ k := by
  unfold sy
  split
  · simp
  · rw [List.length_map]
    exact Nat.le_trans (List.length_filter_le _ _) (by simp)
theorem sy_rise (L : List Int) (k n : Nat) : (sy L k n).Pairwise (· < ·) := by
  unfold sy
  split
  · exact List.Pairwise.nil
  · rw [List.pairwise_map]
    exact ((List.pairwise_lt_range).filter _).imp (fun h => by omega)
theorem sy_mem {L : List Int} {k n s : Nat} (hn : 0 < n) (hs : s < k) (h : L.getD s 0 = (n : Int)) : (s : Int) ∈ sy L k n := by
  unfold sy
  rw [if_neg (by omega)]
  simp only [List.mem_map, List.mem_filter, List.mem_range, beq_iff_eq]
  exact ⟨s, ⟨hs, h⟩, rfl⟩
theorem sy_bound {L : List Int} {k n : Nat} : ∀ x ∈ sy L k n, 0 ≤ x ∧ x < (k : Int) := by
  intro x hx
  unfold sy at hx
  split at hx
  · cases hx
  · simp only [List.mem_map, List.mem_filter, List.mem_range] at hx
    obtain ⟨s, ⟨hs, _⟩, rfl⟩ := hx
    omega
/-- a symbol's place among those of its length -/
theorem sy_place {L : List Int} {k n s : Nat} (hn : 0 < n) (hs : s < k) (h : L.getD s 0 = (n : Int)) : ∃ p, p < (sy L k n).length ∧ (sy L k n).getD p 0 = (s : Int) := by
  obtain ⟨p, hp, he⟩ := List.getElem_of_mem (sy_mem hn hs h)
  exact ⟨p, hp, by simp [hp, he]⟩
theorem sy_lt {L : List Int} {k n i j : Nat} (hij : i < j) (hj : j < (sy L k n).length) : (sy L k n).getD i 0 < (sy L k n).getD j 0 := by
  have h := List.pairwise_iff_getElem.1 (sy_rise L k n) i j (by omega) hj hij
  have e1 : (sy L k n).getD i 0 = (sy L k n)[i]'(by omega) := by simp [show i < (sy L k n).length by omega]
  have e2 : (sy L k n).getD j 0 = (sy L k n)[j] := by simp [hj]
  rw [e1, e2]; exact h

/-- the greatest of the first k lengths -/
def mo (L : List Int) : Nat → Nat
  | 0 => 0
  | k + 1 => max (mo L k) (L.getD k 0).toNat

/-- the first word of each length, by how many there are of each -/
def fw (c : Nat → Nat) : Nat → Nat
  | 0 => 0
  | 1 => 0
  | n + 2 => 2 * (fw c (n + 1) + c (n + 1))
theorem fw_next (c : Nat → Nat) {n : Nat} (h : 1 ≤ n) : fw c (n + 1) = 2 * (fw c n + c n) := by
  obtain ⟨m, rfl⟩ : ∃ m, n = m + 1 := ⟨n - 1, by omega⟩
  rfl
theorem fw_le (c : Nat → Nat) (hc : ∀ n, c n ≤ 400) : ∀ n, fw c n + 800 ≤ 800 * 2 ^ n
  | 0 => by simp [fw]
  | 1 => by simp [fw]
  | n + 2 => by
    have h := fw_le c hc (n + 1)
    have hcn := hc (n + 1)
    rw [fw, Nat.pow_succ]
    omega
theorem fw_ge (c : Nat → Nat) {n : Nat} (hn : 1 ≤ n) : ∀ d, 2 ^ (d + 1) * (fw c n + c n) ≤ fw c (n + (d + 1))
  | 0 => by rw [fw_next c hn]; omega
  | d + 1 => by
    have h := fw_ge c hn d
    rw [show n + (d + 1 + 1) = (n + (d + 1)) + 1 from by omega, fw_next c (by omega), Nat.pow_succ, Nat.mul_comm (2 ^ (d + 1)) 2, Nat.mul_assoc]
    omega
/-- no word begins another -/
theorem no_begin (c : Nat → Nat) {n m i j : Nat} (hn : 1 ≤ n) (hnm : n < m) (hi : i < c n) : (fw c m + j) / 2 ^ (m - n) ≠ fw c n + i := by
  obtain ⟨d, rfl⟩ : ∃ d, m = n + (d + 1) := ⟨m - n - 1, by omega⟩
  have h := fw_ge c hn d
  rw [show n + (d + 1) - n = d + 1 from by omega]
  intro e
  have h2 : fw c n + c n ≤ (fw c (n + (d + 1)) + j) / 2 ^ (d + 1) := by
    rw [Nat.le_div_iff_mul_le (Nat.two_pow_pos _), Nat.mul_comm]
    omega
  omega

/-- the sum of what the words of the first lengths take -/
def su (c : Nat → Nat) : Nat → Nat
  | 0 => 0
  | n + 1 => su c n + c n * 2 ^ (15 - n)
theorem su_le (c : Nat → Nat) (hc : ∀ n, c n ≤ 400) : ∀ n, su c n ≤ n * (400 * 32768)
  | 0 => by simp [su]
  | n + 1 => by
    have h := su_le c hc n
    have h1 : c n * 2 ^ (15 - n) ≤ 400 * 32768 := Nat.mul_le_mul (hc n) (Nat.pow_le_pow_right (by omega) (show 15 - n ≤ 15 by omega))
    rw [su]; omega
/-- do they fit? -/
def fitsB (c : Nat → Nat) (most : Nat) : Bool := decide (su c 16 = 32768) || (decide (su c 16 = 0) || (decide (most = 1) && decide (c 1 = 1)))

/-- are the first k lengths lengths? -/
def okL (L : List Int) (k : Nat) : Prop := ∀ s, s < k → 0 ≤ L.getD s 0 ∧ L.getD s 0 ≤ 15
def allOk (L : List Int) : Bool := L.all fun x => decide (0 ≤ x) && decide (x ≤ 15)
theorem allOk_of {L : List Int} (h : okL L L.length) : allOk L = true := by
  unfold allOk
  rw [List.all_eq_true]
  intro x hx
  obtain ⟨i, hi, rfl⟩ := List.getElem_of_mem hx
  have := h i hi
  have e : L.getD i 0 = L[i] := by simp [hi]
  rw [e] at this
  simpa using this
theorem allOk_no {L : List Int} {k : Nat} (hk : k < L.length) (h : L.getD k 0 < 0 ∨ 15 < L.getD k 0) : allOk L = false := by
  rw [← Bool.not_eq_true]
  unfold allOk
  rw [List.all_eq_true]
  intro hall
  have := hall _ (List.getElem_mem hk)
  have e : L.getD k 0 = L[k] := by simp [hk]
  rw [e] at h
  simp at this
  omega
theorem okL_succ {L : List Int} {k : Nat} (h : okL L k) (h1 : 0 ≤ L.getD k 0 ∧ L.getD k 0 ≤ 15) : okL L (k + 1) := fun s hs => by
  rcases Nat.lt_or_ge s k with g | g
  · exact h s g
  · obtain rfl : s = k := by omega
    exact h1
def cn (L : List Int) (n : Nat) : Nat := (sy L L.length n).length
/-- what Make answers -/
def mk (L : List Int) : Nat := if 320 < L.length then 5 else if allOk L = false then 1 else if fitsB (cn L) (mo L L.length) = false then 4 else 0
end Go.Proofs.YtpbijdoemdoijaaGreatDoor.PrefPlain
end PkCa16_1
section PkCa16_2
/- An array that lies within a block, loaded whole; indexed by value; append as one step of a region that draws; the searches of package slices. -/
namespace Go.Proofs.YtpbijdoemdoijaaGreatDoor
open Go.RowKit PrefPlain
set_option linter.unusedVariables false

theorem add_plain (g off j : Nat) : (⟨g, off, none⟩ : Addr).add j = ⟨g, off + j, none⟩ := by unfold Addr.add; split <;> simp_all

theorem run_loadVar_part {P : Program} (w : World) (g off : Nat) (ty : TypeId) (cs : Array Value) (d : TypeDesc) (hc : ∀ j v, cs[j]? = some v → w.cell? ⟨g, off + j, none⟩ = some v)
    (hu : P.underlying ty = some d) (hd : (match d with | .struct _ | .array _ _ => true | _ => false) = true) (hi : (P.info? ty).map (·.size) = some cs.size) :
    (loadVar ty ⟨g, off, none⟩).run P w = .ok (.agg cs) w := by
  have hl : (loadCells ⟨g, off, none⟩ cs.toList.length).run P w = .ok cs.toList.toArray w :=
    run_loadCells_list (P := P) w ⟨g, off, none⟩ cs.toList (fun j v hv => by
      rw [add_plain]
      exact hc j v (by simpa using hv))
  cases hq : P.info? ty with
  | none => simp [hq] at hi
  | some i =>
    have hs : i.size = cs.size := by simpa [hq] using hi
    have hagg : (isAgg ty).run P w = .ok true w := by
      unfold isAgg
      rw [Sem.run_bind, run_underlying hu w]
      cases d <;> simp_all
    simp only [Array.length_toList, Array.toArray_toList] at hl
    simp [loadVar, Sem.run_bind, hagg, sizeOf, typeInfo, hq, hs, hl]

theorem wpList_load_part {P : Program} {ops : Array Oper} {rest : List Oper} {o : Oper} {a : Act} {w : World} {Q : Exit → Act → World → Prop} (hgd : o.guard = none) (ty : TypeId) (x : Operand) (ho : o.op = .load ty x)
    (g off : Nat) (hx : a.eval x = .pointer (some ⟨g, off, none⟩)) (cs : Array Value) (d : TypeDesc) (hc : ∀ j v, cs[j]? = some v → w.cell? ⟨g, off + j, none⟩ = some v)
    (hu : P.underlying ty = some d) (hd : (match d with | .struct _ | .array _ _ => true | _ => false) = true) (hi : (P.info? ty).map (·.size) = some cs.size)
    (h : wpList P ops Q rest (a.put o.dst (.agg cs)) w) : wpList P ops Q (o :: rest) a w :=
  wpList_plain hgd fun K hK => by
    unfold Oper.wp execOp
    simp only [ho, hx, Instr.loadAt, Instr.sureAddr, Sem.run_bind, Sem.run_pure, Result.andThen_ok, run_loadVar_part w g off ty cs d hc hu hd hi]
    exact hK _ _ h

theorem step_append_own_at {P : Program} {ops : Array Oper} {o : Oper} {a : Act} {w : World} {K : Act → World → Prop} {Q : Exit → Act → World → Prop} {E : Prop}
    (hgd : o.guard = none) (s x : Operand) (t : TypeId) (ho : o.op = .call { callee := .builtin .append, args := #[s, x], argTypes := #[t, t] })
    (base : Nat) (e : TypeId) (i : TypeInfo) (z : Value) (size bytes : Nat) (ht : P.underlying t = some (.slice e)) (hi : P.info? e = some i) (hz : i.zero = some z)
    (hsize : i.size = size) (hby : i.bytes = bytes) (hzs : z.cells.size = size) (hsz : 0 < size)
    (v : Value) (n : Nat) (xs : List Value) (hs : a.eval s = v) (hown : w.ownsRow base e size v n xs)
    (ad : Addr) (m c : Nat) (news : List Value) (hx : a.eval x = .slice (some ad) m c) (hl : news.length = m * size) (hnews : ∀ j u, news[j]? = some u → w.cell? (ad.add j) = some u) (h1 : ∀ u ∈ news, u.oneCell' = true)
    (h63 : n + m ≤ maxLen) (hbytes : (n + m) * bytes ≤ 140737488355328) (hbase : base ≤ w.heap.size)
    (h : ∀ v' w', w'.ownsRow base e size v' (n + m) (xs ++ news) → w.grownBy w' v.ownBlock → (v'.ownBlock = v.ownBlock ∨ v'.ownBlock = some w.heap.size) → K (a.put o.dst v') w') :
    if Region.wanted o (yielded ops a.tmps) = true then Oper.wp P o a w K Q else E := by
  have hw : Region.wanted o (yielded ops a.tmps) = true := by simp [Region.wanted, hgd]
  rw [if_pos hw]
  obtain ⟨v', w', hr, h2, h3, h4, h5⟩ := run_append_own_at (P := P) w base t o.type e i z size bytes ht hi hz hsize hby hzs hsz v n xs hown ad m c news hl hnews h1 h63 hbytes hbase
  unfold Oper.wp execOp
  simp only [ho, resolve, invoke, builtin, Sem.run_bind, Sem.run_pure, Result.andThen_ok, List.map_toArray, List.map_cons, List.map_nil, hs, hx, hr]
  exact h v' w' h2 h3 h5

theorem info_int : (Tryz.prog.info? 3).map (fun i => (i.zero, i.size, i.bytes)) = some (some (.int .i64 0), 1, 8) := by kernel_rfl

theorem wf_int {n : Int} (h : -9223372036854775808 ≤ n ∧ n ≤ 9223372036854775807) : (Lit.int .i64 n).wf = true := by
  simpa [Lit.wf, IntKind.min, IntKind.max, IntKind.signed, IntKind.bits] using h

set_option maxRecDepth 100000 in
set_option maxHeartbeats 1000000 in
theorem cloneInt {w : World} {a : Option Addr} {n c : Nat} {zs : List Int} (h : IntsAt .i64 w a n c zs) (hn : n ≤ 100000) :
    Calls Tryz.prog 208 #[.slice a n c] w fun e w' => ∃ v, e = .returned v ∧ w'.ownsRow w.heap.size 3 1 v n (iv .i64 zs) ∧ Below w.heap.size w w' := by
  have q : ∀ (w : World) (a : Option Addr) (n c n' c' : Nat), (binOp .eql 77 (.slice a n c) (.slice none n' c')).run Tryz.prog w = .ok (.bool a.isNone) w := fun w a n c n' c' => Lib.run_eql_slice_nil w _ _ a n c n' c' Tryz.underlying77
  have hown0 := World.ownsRow_lit (base := w.heap.size) (e := 3) (size := 1) w #[] 0 (Nat.le_refl _) (by unfold maxLen; omega) rfl
  have hlen := h.len
  rcases a with _ | ad
  · have hc0 := h.nl rfl
    have hn0 : n = 0 := by have := h.cap; omega
    subst hn0
    subst hc0
    obtain rfl : zs = [] := List.eq_nil_of_length_eq_zero hlen
    clear h hlen hown0
    go_enter Tryz.func208, Tryz.ntmps208
    go_wp2_with fail
    go_ret
    exact ⟨_, rfl, World.ownsRow_nil _ _ _ _, Below.refl _ _⟩
  · have ha := h.alloc (.cells #[] 3)
    have HA := Lib.hid ha
    clear h ha hlen
    go_enter Tryz.func208, Tryz.ntmps208
    go_wp2_with (at_builtin; refine wpList_append_ints Tryz.underlying77 info_int rfl (.tmp 5) (.tmp 6) rfl w.heap.size _ _ [] rfl hown0 _ _ _ _ rfl HA.out (by omega) (by omega) (by simp) ?_)
    intro v' w1 hown' hgrow
    have hown2 : w1.ownsRow w.heap.size 3 1 v' n (iv .i64 zs) := by simpa using hown'
    clear hown'
    have hb : Below w.heap.size w w1 := ((Below.refl _ _).alloc (Nat.le_refl _) _).grown hgrow (by simp) (fun k hk => by simp [Value.ownBlock] at hk; omega)
    go_wp2_with fail
    go_ret
    exact ⟨v', rfl, hown2, hb⟩


end Go.Proofs.YtpbijdoemdoijaaGreatDoor
end PkCa16_2
section PkCa16_3
/- slices.Repeat of one integer, walked: so many of it, in memory of its own. -/
namespace Go.Proofs.YtpbijdoemdoijaaGreatDoor
open Go.RowKit
set_option linter.unusedVariables false

set_option maxHeartbeats 1000000 in
theorem mul64_one (k : Nat) (hk : k ≤ 100000) (w : World) :
    Calls Tryz.prog 169 #[.int .u64 1, .int .u64 (k : Int)] w fun e w' => e = .returned (.tuple #[.int .u64 0, .int .u64 (k : Int)]) ∧ w = w' := by
  have E0 : bits .and .u64 1 4294967295 = 1 := by decide
  have E1 : bits .and .u64 (k : Int) 4294967295 = (k : Int) := by
    have h := u64_and_nat k 4294967295 (by omega) (by omega)
    rw [show k &&& 4294967295 = k % 4294967296 from Nat.and_two_pow_sub_one_eq_mod k 32, Nat.mod_eq_of_lt (by omega)] at h
    exact h
  have E2 : (k : Int) / 4294967296 = 0 := by omega
  have E3 : bits .and .u64 0 4294967295 = 0 := by decide
  go_enter Tryz.func169, Tryz.ntmps169
  go_wp2_with fail
  go_ret2
  exact ⟨rfl, rfl⟩
set_option maxHeartbeats 1000000 in
theorem mul_one_any (k : Nat) (hk : k ≤ 100000) (w : World) :
    Calls Tryz.prog 138 #[.int .u64 1, .int .u64 (k : Int)] w fun e w' => e = .returned (.tuple #[.int .u64 0, .int .u64 (k : Int)]) ∧ w = w' := by
  have HM := Lib.hid (mul64_one k hk w)
  go_enter Tryz.func138, Tryz.ntmps138
  go_wp2_with fail
  refine HM.out.mono ?_
  rintro e w1 ⟨rfl, rfl⟩
  go_wp2_with fail
  go_ret2
  exact ⟨rfl, rfl⟩

theorem below_drew (w : World) : Below w.heap.size w w.drew := ⟨rfl, rfl, rfl, Nat.le_refl _, fun _ _ => rfl⟩
/-- a row of k, of which the first j are there -/
def repRow (z : Int) (j k : Nat) : List Value := List.replicate j (.int .i64 z) ++ List.replicate (k - j) (.int .i64 0)
theorem repRow_len (z : Int) {j k : Nat} (h : j ≤ k) : (repRow z j k).length = k := by simp [repRow]; omega
theorem repRow_start (z : Int) (k : Nat) : madeCells #[Value.int .i64 0] k = (repRow z 0 k).toArray := by
  apply Array.toList_inj.1
  rw [toList_madeCells_one]
  simp [repRow]
theorem repRow_copy (z : Int) {j m k : Nat} (h : j + m ≤ k) : splice (repRow z j k) j (List.replicate m (.int .i64 z)) = repRow z (j + m) k := by
  unfold splice repRow
  rw [List.take_left' (by simp), List.length_replicate, List.drop_append, List.drop_of_length_le (by simp), List.length_replicate, List.drop_replicate, List.nil_append, ← List.append_assoc, List.replicate_append_replicate]
  congr 2
  omega
theorem repRow_get (z : Int) {j k i : Nat} (hi : i < j) : (repRow z j k).toArray[i]? = some (.int .i64 z) := by
  simp [repRow, List.getElem?_append_left, hi]
theorem repRow_full (z : Int) (k : Nat) : repRow z k k = iv .i64 (List.replicate k z) := by simp [repRow, iv]
theorem repl_get {m i : Nat} {u a : Value} (h : (List.replicate m a)[i]? = some u) : i < m ∧ u = a := by
  rw [List.getElem?_replicate] at h
  split at h
  · exact ⟨‹_›, (Option.some.inj h).symm⟩
  · cases h

set_option maxRecDepth 100000 in
set_option maxHeartbeats 1000000 in
theorem repeat_any {w : World} {a : Option Addr} {c : Nat} {z : Int} (h : IntsAt .i64 w a 1 c [z]) (k : Nat) (h1 : 1 ≤ k) (hk : k ≤ 100000) :
    Calls Tryz.prog 205 #[.slice a 1 c, .int .i64 (k : Int)] w fun e w' => ∃ v, e = .returned v ∧ w'.ownsRow w.heap.size 3 1 v k (iv .i64 (List.replicate k z)) ∧ Below w.heap.size w w' := by
  obtain ⟨i0, hi, hz0, hz1, hz2⟩ := info_parts info_int
  obtain ⟨b, off, rfl, hlt, hcell⟩ := h.cells (by omega)
  have hc0 : w.cell? ⟨b, off, none⟩ = some (.int .i64 z) := hcell 0 (by omega)
  have HM := Lib.hid (mul_one_any k hk w)
  have HC := Lib.hid hc0
  have hb2 : Below w.heap.size w (w.alloc (.cells (madeCells #[Value.int .i64 0] k) 3)) := (Below.refl _ _).alloc (Nat.le_refl _) _
  have hr2 : (w.alloc (.cells (madeCells #[Value.int .i64 0] k) 3)).heap[w.heap.size]? = some (.cells (repRow z 0 k).toArray 3 (0, 0)) := by rw [← repRow_start]; exact heap_alloc_new w _
  have HC2 := Lib.hid ((hb2.cell (p := ⟨b, off, none⟩) hlt).trans hc0)
  have HB2 := Lib.hid hb2
  have HR2 := Lib.hid hr2
  have HSZ := Lib.hid (show (Tryz.prog.info? 3).map (·.size) = some 1 by kernel_rfl)
  have HS1 := Lib.hid (show (List.replicate 1 (Value.int .i64 z)).length = Nat.min 1 k by rw [List.length_replicate]; show 1 = min 1 k; omega)
  have HS2 := Lib.hid (show ∀ j v, (List.replicate 1 (Value.int .i64 z))[j]? = some v → (w.alloc (.cells (madeCells #[Value.int .i64 0] k) 3)).cell? ((⟨b, off, none⟩ : Addr).add j) = some v from fun j u hj => by
    obtain ⟨hj1, rfl⟩ := repl_get hj
    obtain rfl : j = 0 := by omega
    rw [add_plain]; exact HC2.out)
  have HS3 := Lib.hid (show 0 + (List.replicate 1 (Value.int .i64 z)).length ≤ (repRow z 0 k).length by rw [repRow_len z (by omega), List.length_replicate]; omega)
  have HS4 := Lib.hid (show ∀ u ∈ List.replicate 1 (Value.int .i64 z), u.oneCell' = true by intro u hu; rw [List.mem_replicate] at hu; rw [hu.2]; rfl)
  clear hb2 hr2
  clear hcell h hc0
  go_enter Tryz.func205, Tryz.ntmps205
  go_wp2_with fail
  refine HM.out.mono ?_
  rintro e w1 ⟨rfl, rfl⟩
  go_wp2_with (first | (refine wpList_make_row _ rfl (.tmp 29) (.tmp 29) 77 rfl 3 i0 (.int .i64 0) Tryz.underlying77 hi hz0 hz1 rfl .i64 .i64 k rfl rfl (by rw [hz2]; omega) (by omega) ?_) | (refine wpList_copy_splice rfl (.tmp 31) (.tmp 32) 77 77 rfl 3 Tryz.underlying77 HSZ.out (some ⟨w.heap.size, 0, none⟩) (some ⟨b, off, none⟩) k k 1 c rfl rfl w.heap.size 0 (repRow z 0 k) 3 HR2.out (List.replicate 1 (.int .i64 z)) HS1.out (fun _ => ⟨rfl, _, rfl, HS2.out⟩) HS3.out HS4.out w.heap.size w HB2.out (Nat.le_refl _) ?_))
  obtain ⟨g, hg⟩ : ∃ g, g = w.heap.size := ⟨_, rfl⟩
  rw [← hg]
  have HG := Lib.hid hg
  intro w3 hr3 hb3
  have HR3 : Hid (w3.heap[g]? = some (.cells (repRow z 1 k).toArray 3 (0, 0))) := Lib.hid (hr3.out.trans (by rw [show [Value.int .i64 z] = List.replicate 1 (Value.int .i64 z) from rfl, repRow_copy z (by omega)]))
  have HB3 := Lib.hid hb3
  clear hr3 hb3 hg
  go_wp2_with fail
  go_loopw [8] (fun s8 wr => ∃ j : Nat, 1 ≤ j ∧ j ≤ k ∧ s8 = .int .i64 (j : Int) ∧ Hid (wr.heap[g]? = some (.cells (repRow z j k).toArray 3 (0, 0))) ∧ Hid (Below g w wr)) (fun s8 _ => k - (intOf s8).toNat)
  case atStart => exact ⟨1, by omega, by omega, by rfl, HR3, HB3⟩
  case round =>
    obtain ⟨j, hj1, hjk, rfl, HR, HB⟩ := hrel
    rename World => wr
    by_cases hlt2 : j < k
    · obtain ⟨m, hm⟩ : ∃ m, m = min j (k - j) := ⟨_, rfl⟩
      have hm1 : 1 ≤ m := by omega
      have hmj : m ≤ j := by omega
      have hmk : j + m ≤ k := by omega
      have HM := Lib.hid hm
      have hkj : ¬ k = j := by omega
      have hgw : g ≤ wr.heap.size := by rw [HG.out]; exact HB.out.size
      clear hm
      go_wp2_with fail
      have HA1 := Lib.hid (show (List.replicate m (Value.int .i64 z)).length = Nat.min j (k - j) by rw [List.length_replicate, HM.out]; first | done | rfl)
      have HA2 := Lib.hid (show ∀ i u, (List.replicate m (Value.int .i64 z))[i]? = some u → wr.drew.cell? ((⟨g, 0, none⟩ : Addr).add i) = some u from fun i u hj => by obtain ⟨hj1, rfl⟩ := repl_get hj; rw [add_plain, Nat.zero_add]; exact (cell_of_row wr g i _ _ (0, 0) HR.out).trans (repRow_get z (by omega)))
      have HA3 := Lib.hid (show j + (List.replicate m (Value.int .i64 z)).length ≤ (repRow z j k).length by rw [repRow_len z (by omega), List.length_replicate]; omega)
      have HA4 := Lib.hid (show ∀ u ∈ List.replicate m (Value.int .i64 z), u.oneCell' = true by intro u hu; rw [List.mem_replicate] at hu; rw [hu.2]; rfl)
      have HA5 := Lib.hid (HB.out.trans ((below_drew wr).mono hgw))
      have hsum : IntKind.i64.wrap ((j : Int) + (m : Int)) = ((j + m : Nat) : Int) := by rw [IntWalk.i64_in _ (by omega)]; omega
      go_region_law (refine step_copy_splice rfl (.tmp 41) (.tmp 44) 77 77 rfl 3 Tryz.underlying77 HSZ.out (some ⟨g, j, none⟩) (some ⟨g, 0, none⟩) (k - j) (k - j) j k (by go_simp) (by go_simp) g j (repRow z j k) 3 HR.out (List.replicate m (.int .i64 z)) HA1.out (fun _ => ⟨rfl, _, rfl, HA2.out⟩) HA3.out HA4.out g w HA5.out (Nat.le_refl _) ?_; intro w4 hr4 hb4)
      all_goals
        try go_simp
        clear hsum
        have HR4 : Hid (w4.heap[g]? = some (.cells (repRow z (j + m) k).toArray 3 (0, 0))) := Lib.hid (by rw [← repRow_copy z hmk]; exact hr4.out)
        have HB4 := Lib.hid hb4
        clear hr4 hb4
        go_wp2_with fail
        go_roundw
        case rel => exact ⟨j + m, by omega, by omega, rfl, HR4, HB4⟩
        case measure => simp [intOf]; omega
    · obtain rfl : j = k := by omega
      go_wp2_with fail
      go_ret
      exact ⟨_, rfl, ⟨by simp [iv], .inr ⟨g, j, _, rfl, Nat.le_of_eq HG.out.symm, HR.out, Nat.le_refl _, by unfold maxLen; omega, by simp [repRow_len], by rw [← repRow_full]; simp [repRow]⟩⟩, by rw [← HG.out]; exact HB.out⟩
end Go.Proofs.YtpbijdoemdoijaaGreatDoor
end PkCa16_3
