/- Queries, plainly: what is kept of rows, in order, cut, with texts or without. -/
import Derived.Test.YtjbljplgkbnpmaaSortPB
import Derived.Test.YtjbljplgkbnpmaaLabMt
namespace Go.Proofs.Ytjbljplgkbnpmaa
open Go.RowKit LabPlain RecPlain Stab
set_option linter.unusedVariables false

structure QP where
  fr : Int
  to : Int
  ms : List Mat
  lim : Int
  tx : Bool
def qRight (q : QP) : Bool := decide (0 ≤ q.fr) && decide (q.fr ≤ q.to) && decide (q.to ≤ 1099511627776) && decide (q.ms.length ≤ 8) && decide (0 ≤ q.lim) && decide (q.lim ≤ 2048) && q.ms.all asksB
theorem qRight_iff {q : QP} : qRight q = true ↔ (0 ≤ q.fr ∧ q.fr ≤ q.to ∧ q.to ≤ 1099511627776 ∧ q.ms.length ≤ 8 ∧ 0 ≤ q.lim ∧ q.lim ≤ 2048) ∧ q.ms.all asksB = true := by
  unfold qRight
  simp only [Bool.and_eq_true, decide_eq_true_eq]
  constructor
  · rintro ⟨⟨⟨⟨⟨⟨a, b⟩, c⟩, d⟩, e⟩, f⟩, g⟩; exact ⟨⟨a, b, c, d, e, f⟩, g⟩
  · rintro ⟨⟨a, b, c, d, e, f⟩, g⟩; exact ⟨⟨⟨⟨⟨⟨a, b⟩, c⟩, d⟩, e⟩, f⟩, g⟩
theorem qRight_no {q : QP} (h : ¬ (0 ≤ q.fr ∧ q.fr ≤ q.to ∧ q.to ≤ 1099511627776 ∧ q.ms.length ≤ 8 ∧ 0 ≤ q.lim ∧ q.lim ≤ 2048)) : qRight q = false := by
  cases e : qRight q with
  | false => rfl
  | true => exact absurd (qRight_iff.1 e).1 h
theorem all_get {l : List Mat} {n : Nat} (hl : l.length = n) (h : ∀ i, i < n → asksB (l.getD i mat0) = true) : l.all asksB = true := by
  rw [List.all_eq_true]
  intro x hx
  obtain ⟨i, hi, rfl⟩ := List.mem_iff_getElem.1 hx
  have := h i (by omega)
  simpa [hi] using this
theorem all_not {l : List Mat} {i : Nat} (hl : i < l.length) (h : asksB (l.getD i mat0) = false) : l.all asksB = false := by
  cases e : l.all asksB with
  | false => rfl
  | true =>
    have h1 := List.all_eq_true.1 e l[i] (List.getElem_mem _)
    have h2 : l.getD i mat0 = l[i] := by simp [hl]
    rw [h2, h1] at h; cases h
def keepS (q : QP) (s : Say) : Bool := decide (q.fr ≤ s.2.1) && decide (s.2.1 < q.to) && meetsB s.2.2.1 q.ms
def textS (q : QP) (s : Say) : Say := if q.tx = true then s else (s.1, s.2.1, s.2.2.1, ByteArray.empty, s.2.2.2.2)
def cutS (q : QP) (l : List Say) : List Say := if 0 < q.lim then l.take q.lim.toNat else l
def ansS (q : QP) (l : List Say) : List Say := if qRight q = true then (cutS q (sortB ltS (l.filter (keepS q)))).map (textS q) else []

def stepS (q : QP) (o : List Say) (s : Say) : List Say := if (qRight q && keepS q s) = false ∨ (0 < q.lim ∧ q.lim ≤ (o.length : Int)) then o else o ++ [textS q s]
theorem steps_none {q : QP} (h : qRight q = false) : ∀ (S : List Say) (o : List Say), S.foldl (stepS q) o = o
  | [], _ => rfl
  | x :: S, o => by
    rw [List.foldl_cons, show stepS q o x = o from by unfold stepS; rw [if_pos (.inl (by rw [h]; rfl))]]
    exact steps_none h S o
theorem cut_snoc {q : QP} {l : List Say} {x : Say} : cutS q (l ++ [x]) = if 0 < q.lim ∧ q.lim ≤ ((cutS q l).length : Int) then cutS q l else cutS q l ++ [x] := by
  unfold cutS
  by_cases h : 0 < q.lim
  · rw [if_pos h, if_pos h, List.length_take]
    by_cases g : q.lim ≤ (l.length : Int)
    · rw [if_pos ⟨h, by omega⟩, List.take_append_of_le_length (by omega)]
    · rw [if_neg (by omega), List.take_of_length_le (by rw [List.length_append, List.length_singleton]; omega), List.take_of_length_le (by omega)]
  · rw [if_neg h, if_neg h, if_neg (fun e => h e.1)]
theorem steps_some {q : QP} (h : qRight q = true) : ∀ (S : List Say) (D : List Say), S.foldl (stepS q) ((cutS q (D.filter (keepS q))).map (textS q)) = (cutS q ((D ++ S).filter (keepS q))).map (textS q)
  | [], D => by rw [List.append_nil]; rfl
  | x :: S, D => by
    have ih := steps_some h S (D ++ [x])
    rw [List.append_assoc, List.singleton_append] at ih
    rw [List.foldl_cons, ← ih]
    congr 1
    unfold stepS
    rw [h, Bool.true_and, List.length_map, List.filter_append]
    cases hk : keepS q x with
    | false =>
      rw [if_pos (.inl rfl), List.filter_cons_of_neg (by rw [hk]; decide), List.filter_nil, List.append_nil]
    | true =>
      rw [List.filter_cons_of_pos hk, List.filter_nil, cut_snoc]
      by_cases g : 0 < q.lim ∧ q.lim ≤ ((cutS q (D.filter (keepS q))).length : Int)
      · rw [if_pos (.inr g), if_pos g]
      · rw [if_neg (fun e => by rcases e with e | e; exact absurd e (by decide); exact g e), if_neg g, List.map_append]; rfl
theorem ref_ans {q : QP} (L : List Say) : (sortB ltS L).foldl (stepS q) [] = ansS q L := by
  unfold ansS
  cases h : qRight q with
  | false => rw [steps_none h, if_neg (by decide)]
  | true =>
    have h1 := steps_some h (sortB ltS L) []
    rw [List.nil_append, show (([] : List Say).filter (keepS q)) = [] from rfl, show cutS q [] = [] from by unfold cutS; split <;> simp] at h1
    rw [if_pos rfl, sortB_filter weak_ltS]
    exact h1
/-- later ones are of no earlier time -/
theorem ltS_time {a b : Say} (h : ltS b a = false) : a.2.1 ≤ b.2.1 := by
  unfold ltS ltR at h
  rw [decide_eq_false_iff_not, cmpRow_lex] at h
  have : ¬ b.2.1 < a.2.1 := fun g => h (.inl g)
  omega
/-- one query more, in two parts -/
theorem ans_two {q : QP} {cut : Int} (hq : qRight q = true) (h1 : q.fr ≤ cut) (h2 : cut ≤ q.to) (L : List Say) :
    ansS ⟨q.fr, cut, q.ms, 0, q.tx⟩ L ++ ansS ⟨cut, q.to, q.ms, 0, q.tx⟩ L = ansS ⟨q.fr, q.to, q.ms, 0, q.tx⟩ L := by
  have hq0 := hq
  obtain ⟨⟨a1, a2, a3, a4, a5, a6⟩, a7⟩ := qRight_iff.1 hq
  have r0 : qRight ⟨q.fr, q.to, q.ms, 0, q.tx⟩ = true := qRight_iff.2 ⟨by simp only; omega, a7⟩
  have r1 : qRight ⟨q.fr, cut, q.ms, 0, q.tx⟩ = true := qRight_iff.2 ⟨by simp only; omega, a7⟩
  have r2 : qRight ⟨cut, q.to, q.ms, 0, q.tx⟩ = true := qRight_iff.2 ⟨by simp only; omega, a7⟩
  have ht : ∀ f t, (textS ⟨f, t, q.ms, 0, q.tx⟩) = textS q := fun f t => rfl
  have hc : ∀ f t l, cutS ⟨f, t, q.ms, 0, q.tx⟩ l = l := fun f t l => by unfold cutS; exact if_neg (Int.lt_irrefl 0)
  unfold ansS
  rw [if_pos r0, if_pos r1, if_pos r2]
  simp only [hc, ht]
  rw [← List.map_append]
  congr 1
  have hcut := up_cut (lt := ltS) (fun s : Say => decide (s.2.1 < cut)) (l := sortB ltS (L.filter (keepS ⟨q.fr, q.to, q.ms, 0, q.tx⟩))) ((sortB_up weak_ltS).imp fun {a b} h g => by
    have := ltS_time h
    simp only [decide_eq_true_eq] at g ⊢
    omega)
  rw [hcut, ← sortB_filter weak_ltS, ← sortB_filter weak_ltS, List.filter_filter, List.filter_filter]
  congr 1
  · congr 1
    apply List.filter_congr
    intro s _
    unfold keepS
    simp only
    rw [Bool.eq_iff_iff]
    simp only [Bool.and_eq_true, decide_eq_true_eq]
    constructor
    · rintro ⟨⟨b1, b2⟩, b3⟩; exact ⟨b2, ⟨⟨b1, by omega⟩, b3⟩⟩
    · rintro ⟨b2, ⟨b1, b4⟩, b3⟩; exact ⟨⟨b1, b2⟩, b3⟩
  · congr 1
    apply List.filter_congr
    intro s _
    unfold keepS
    simp only
    rw [Bool.eq_iff_iff]
    simp only [Bool.and_eq_true, decide_eq_true_eq, Bool.not_eq_true', decide_eq_false_iff_not]
    constructor
    · rintro ⟨⟨b1, b2⟩, b3⟩; exact ⟨by omega, ⟨⟨by omega, b2⟩, b3⟩⟩
    · rintro ⟨b2, ⟨b1, b4⟩, b3⟩; exact ⟨⟨by omega, b4⟩, b3⟩
/-- a limit cuts -/
theorem ans_lim {q : QP} (hq : qRight q = true) (L : List Say) : ansS q L = if 0 < q.lim then (ansS ⟨q.fr, q.to, q.ms, 0, q.tx⟩ L).take q.lim.toNat else ansS ⟨q.fr, q.to, q.ms, 0, q.tx⟩ L := by
  have hq0 := hq
  obtain ⟨⟨a1, a2, a3, a4, a5, a6⟩, a7⟩ := qRight_iff.1 hq
  have r0 : qRight ⟨q.fr, q.to, q.ms, 0, q.tx⟩ = true := qRight_iff.2 ⟨by simp only; omega, a7⟩
  have hc : cutS ⟨q.fr, q.to, q.ms, 0, q.tx⟩ = id := by funext l; unfold cutS; exact if_neg (Int.lt_irrefl 0)
  unfold ansS
  rw [if_pos hq0, if_pos r0, hc]
  have hk : keepS ⟨q.fr, q.to, q.ms, 0, q.tx⟩ = keepS q := rfl
  have ht : textS ⟨q.fr, q.to, q.ms, 0, q.tx⟩ = textS q := rfl
  rw [hk, ht]
  unfold cutS
  split
  · rw [List.map_take]; rfl
  · rfl
end Go.Proofs.Ytjbljplgkbnpmaa
