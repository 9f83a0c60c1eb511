/- What is put together, again and again: plainly. -/
import Derived.Test.YteihbbmbdkkbbaaEChoPlain
namespace Go.Proofs.Yteihbbmbdkkbbaa
open Stab LabPlain
set_option linter.unusedVariables false

def sumR : List EntV → Int
  | [] => 0
  | x :: l => x.rows + sumR l
theorem sumR_app (a b : List EntV) : sumR (a ++ b) = sumR a + sumR b := by
  induction a with
  | nil => simp [sumR]
  | cons x a ih => simp [sumR, ih]; omega
theorem sumR_perm {a b : List EntV} (h : a.Perm b) : sumR a = sumR b := by
  induction h with
  | nil => rfl
  | cons x _ ih => simp [sumR, ih]
  | swap x y l => simp [sumR]; omega
  | trans _ _ i1 i2 => exact i1.trans i2
theorem sumR_nn {l : List EntV} (h : ∀ x ∈ l, 1 ≤ x.rows) : (l.length : Int) ≤ sumR l := by
  induction l with
  | nil => simp [sumR]
  | cons x l ih =>
    have h1 := h x (by simp)
    have h2 := ih (fun y hy => h y (by simp [hy]))
    simp only [sumR, List.length_cons]
    omega
theorem sumR_le {l : List EntV} (h : ∀ x ∈ l, 1 ≤ x.rows) {x : EntV} (hx : x ∈ l) : x.rows ≤ sumR l := by
  induction l with
  | nil => cases hx
  | cons y l ih =>
    have h1 := h y (by simp)
    have h2 : ∀ z ∈ l, 1 ≤ z.rows := fun z hz => h z (by simp [hz])
    have h3 := sumR_nn h2
    rcases List.mem_cons.1 hx with e | e
    · rw [e]; simp only [sumR]; omega
    · have := ih h2 e
      simp only [sumR]; omega
theorem sumR_filter (p : EntV → Bool) (l : List EntV) : sumR l = sumR (l.filter fun x => !p x) + sumR (l.filter p) := by
  induction l with
  | nil => simp [sumR]
  | cons x l ih =>
    cases h : p x
    · simp only [List.filter_cons, h, Bool.not_false, if_true, sumR, Bool.false_eq_true, if_false]; omega
    · simp only [List.filter_cons, h, Bool.not_true, if_true, sumR, Bool.false_eq_true, if_false]; omega

/-- the entries that tog takes -/
def togE (f : EntV) (most : Int) : Int → List EntV → List EntV
  | _, [] => []
  | r, x :: l => if x.win ≠ f.win ∨ x.part ≠ f.part then [] else if r + x.rows ≤ most then x :: togE f most (r + x.rows) l else togE f most r l
theorem tog_map (f : EntV) (most : Int) : ∀ (l : List EntV) (r : Int), tog f most r l = (togE f most r l).map EntV.key
  | [], _ => rfl
  | x :: l, r => by
    rw [tog, togE]
    split
    · rfl
    · split
      · rw [List.map_cons, tog_map f most l]
      · rw [tog_map f most l]
theorem togE_sub (f : EntV) (most : Int) : ∀ (l : List EntV) (r : Int), (togE f most r l).Sublist l
  | [], _ => List.Sublist.refl _
  | x :: l, r => by
    rw [togE]
    split
    · exact List.nil_sublist _
    · split
      · exact (togE_sub f most l _).cons_cons x
      · exact (togE_sub f most l _).cons x
theorem togE_same (f : EntV) (most : Int) : ∀ (l : List EntV) (r : Int), ∀ x ∈ togE f most r l, x.win = f.win ∧ x.part = f.part
  | [], _, x, h => by cases h
  | y :: l, r, x, h => by
    rw [togE] at h
    split at h
    · cases h
    · rename_i hn
      split at h
      · rcases List.mem_cons.1 h with e | e
        · rw [e]
          exact ⟨Decidable.byContradiction fun c => hn (.inl c), Decidable.byContradiction fun c => hn (.inr c)⟩
        · exact togE_same f most l _ x e
      · exact togE_same f most l _ x h
theorem togE_sum (f : EntV) (most : Int) : ∀ (l : List EntV) (r : Int), togE f most r l ≠ [] → r + sumR (togE f most r l) ≤ most
  | [], _, h => absurd rfl h
  | y :: l, r, h => by
    rw [togE] at h ⊢
    split at h
    · exact absurd rfl h
    · rename_i hn
      rw [if_neg hn]
      split at h
      · rename_i hr
        rw [if_pos hr]
        by_cases he : togE f most (r + y.rows) l = []
        · rw [he]; simp only [sumR]; omega
        · have := togE_sum f most l _ he
          simp only [sumR]; omega
      · rename_i hr
        rw [if_neg hr]
        exact togE_sum f most l _ h
/-- what cho takes: nothing, or two at least of one window and part, not too many rows -/
theorem cho_some {most : Int} : ∀ fs : List EntV, cho most fs ≠ [] → ∃ C : List EntV, cho most fs = C.map EntV.key ∧ C.Sublist fs ∧ 2 ≤ C.length ∧ (∀ x ∈ C, ∀ y ∈ C, x.win = y.win ∧ x.part = y.part) ∧ sumR C ≤ most
  | [], h => absurd rfl h
  | f :: l, h => by
    rw [cho] at h ⊢
    by_cases he : tog f most f.rows l = []
    · rw [if_pos he] at h ⊢
      obtain ⟨C, h1, h2, h3⟩ := cho_some l h
      exact ⟨C, h1, h2.cons f, h3⟩
    · rw [if_neg he]
      have hne : togE f most f.rows l ≠ [] := fun e => he (by rw [tog_map, e]; rfl)
      refine ⟨f :: togE f most f.rows l, by rw [tog_map]; rfl, (togE_sub f most l _).cons_cons f, ?_, fun x hx y hy => ?_, ?_⟩
      · have := List.length_pos_iff.2 hne
        simp only [List.length_cons]; omega
      · have hs : ∀ z ∈ f :: togE f most f.rows l, z.win = f.win ∧ z.part = f.part := fun z hz => by
          rcases List.mem_cons.1 hz with e | e
          · rw [e]; exact ⟨rfl, rfl⟩
          · exact togE_same f most l _ z e
        exact ⟨(hs x hx).1.trans (hs y hy).1.symm, (hs x hx).2.trans (hs y hy).2.symm⟩
      · simp only [sumR]; exact togE_sum f most l _ hne
theorem tog_finds {f b : EntV} {most : Int} : ∀ (l : List EntV) (r : Int), Runs f l → b ∈ l → b.win = f.win → b.part = f.part → r + b.rows ≤ most → tog f most r l ≠ []
  | [], _, _, h, _, _, _ => by cases h
  | x :: l, r, hr, hb, hw, hp, hs => by
    obtain ⟨h1, h2⟩ := hr
    rw [tog]
    rcases List.mem_cons.1 hb with e | e
    · subst e
      rw [if_neg (fun c => by rcases c with c | c; exact c hw; exact c hp), if_pos hs]
      exact List.cons_ne_nil _ _
    · by_cases hn : x.win ≠ f.win ∨ x.part ≠ f.part
      · rcases h1 hn b e with c | c
        · exact absurd hw c
        · exact absurd hp c
      · rw [if_neg hn]
        split
        · exact List.cons_ne_nil _ _
        · exact tog_finds l r h2 e hw hp hs
theorem cho_none {most : Int} : ∀ fs : List EntV, cho most fs = [] → AllRuns fs → fs.Pairwise fun a b => ¬ (b.win = a.win ∧ b.part = a.part ∧ a.rows + b.rows ≤ most)
  | [], _, _ => List.Pairwise.nil
  | f :: l, h, hr => by
    rw [cho] at h
    obtain ⟨h1, h2⟩ := hr
    by_cases he : tog f most f.rows l = []
    · rw [if_pos he] at h
      exact List.Pairwise.cons (fun b hb c => tog_finds l _ h1 hb c.1 c.2.1 c.2.2 he) (cho_none l h h2)
    · rw [if_neg he] at h
      exact absurd h (List.cons_ne_nil _ _)

/-- is a key among some? -/
def inK (ks : List ByteArray) (k : ByteArray) : Bool := ks.any fun y => decide (y = k)
theorem inK_app (ks : List ByteArray) (y k : ByteArray) : inK (ks ++ [y]) k = (inK ks k || decide (y = k)) := by simp [inK]
theorem inK_iff {ks : List ByteArray} {k : ByteArray} : inK ks k = true ↔ k ∈ ks := by simp [inK]
/-- all that was put together, as one: the first one, with the rows of all -/
def oneOf : List EntV → EntV
  | [] => ent0
  | d :: l => { d with rows := sumR (d :: l) }
theorem oneOf_app {D : List EntV} (h : D ≠ []) (x : EntV) : oneOf (D ++ [x]) = { oneOf D with rows := (oneOf D).rows + x.rows } := by
  cases D with
  | nil => exact absurd rfl h
  | cons d l => simp only [oneOf, List.cons_append, sumR, sumR_app]; congr 1; omega
theorem oneOf_one (x : EntV) : oneOf [x] = x := by simp [oneOf, sumR]
theorem oneOf_rows {D : List EntV} (h : D ≠ []) : (oneOf D).rows = sumR D := by
  cases D with
  | nil => exact absurd rfl h
  | cons d l => rfl
theorem oneOf_same {D : List EntV} (h : D ≠ []) : ∃ d ∈ D, (oneOf D).win = d.win ∧ (oneOf D).part = d.part ∧ (oneOf D).key = d.key ∧ (oneOf D).key.size = d.key.size ∧ (oneOf D).part.size = d.part.size := by
  cases D with
  | nil => exact absurd rfl h
  | cons d l => exact ⟨d, by simp, rfl, rfl, rfl, rfl, rfl⟩

/-- what stays: rows, keys unlike, no more rows in all than ahead, few -/
structure Few (l : List EntV) : Prop where
  pos : ∀ x ∈ l, 1 ≤ x.rows
  keys : l.Pairwise fun x y => x.key ≠ y.key
  sum : sumR l ≤ 124928
  size : ∀ x ∈ l, x.key.size ≤ 140737488355328 ∧ x.part.size ≤ 140737488355328
theorem Few.le {l : List EntV} (h : Few l) : ∀ x ∈ l, 1 ≤ x.rows ∧ x.rows ≤ 1099511627776 := fun x hx => by
  have h1 := sumR_le h.pos hx
  have h2 := h.sum
  exact ⟨h.pos x hx, by omega⟩
theorem nodup_of_keys {l : List EntV} (h : l.Pairwise fun x y => x.key ≠ y.key) : l.Nodup := h.imp fun hne e => hne (by rw [e])
theorem key_inj {l : List EntV} (h : l.Pairwise fun x y => x.key ≠ y.key) {x y : EntV} (hx : x ∈ l) (hy : y ∈ l) (he : x.key = y.key) : x = y := by
  induction l with
  | nil => cases hx
  | cons z l ih =>
    rw [List.pairwise_cons] at h
    rcases List.mem_cons.1 hx with e | e <;> rcases List.mem_cons.1 hy with g | g
    · rw [e, g]
    · rw [e] at he; exact absurd he (h.1 y g)
    · rw [g] at he; exact absurd he.symm (h.1 x e)
    · exact ih h.2 e g
/-- one round -/
structure Round (ks : List ByteArray) (most : Int) (l : List EntV) : Prop where
  two : 2 ≤ (l.filter fun x => inK ks x.key).length
  same : ∀ x ∈ l, ∀ y ∈ l, inK ks x.key = true → inK ks y.key = true → x.win = y.win ∧ x.part = y.part
  sum : sumR (l.filter fun x => inK ks x.key) ≤ most
theorem round_of {small most : Int} {l fs : List EntV} (hl : Few l) (hp : fs.Pairwise (fun x y => ltE x y = true)) (hm : ∀ x, x ∈ fs ↔ x ∈ l ∧ x.rows < small) (hne : cho most fs ≠ []) : Round (cho most fs) most l := by
  obtain ⟨C, h1, h2, h3, h4, h5⟩ := cho_some fs hne
  have hCl : ∀ x ∈ C, x ∈ l := fun x hx => ((hm x).1 (h2.subset hx)).1
  have hin : ∀ x ∈ l, (inK (cho most fs) x.key = true ↔ x ∈ C) := fun x hx => by
    rw [inK_iff, h1, List.mem_map]
    constructor
    · rintro ⟨y, hy, he⟩
      rw [← key_inj hl.keys (hCl y hy) hx he]; exact hy
    · intro h; exact ⟨x, h, rfl⟩
  have hfn : fs.Nodup := hp.imp fun {x y} h e => by
    rw [e] at h
    have := weak_ltE.irr y
    rw [h] at this; cases this
  have hperm : (l.filter fun x => inK (cho most fs) x.key).Perm C := by
    rw [List.perm_ext_iff_of_nodup ((nodup_of_keys hl.keys).filter _) (hfn.sublist h2)]
    intro x
    rw [List.mem_filter]
    constructor
    · rintro ⟨a, b⟩; exact (hin x a).1 b
    · intro h; exact ⟨hCl x h, (hin x (hCl x h)).2 h⟩
  refine ⟨by rw [hperm.length_eq]; exact h3, fun x hx y hy a b => h4 x ((hin x hx).1 a) y ((hin y hy).1 b), ?_⟩
  rw [sumR_perm hperm]; exact h5
theorem len_filter (p : EntV → Bool) (l : List EntV) : l.length = (l.filter fun x => !p x).length + (l.filter p).length := by
  induction l with
  | nil => rfl
  | cons x l ih =>
    cases h : p x
    · simp only [List.filter_cons, h, Bool.not_false, if_true, Bool.false_eq_true, if_false, List.length_cons]; omega
    · simp only [List.filter_cons, h, Bool.not_true, if_true, Bool.false_eq_true, if_false, List.length_cons]; omega
theorem Few.next {ks : List ByteArray} {most : Int} {l : List EntV} (hl : Few l) (hr : Round ks most l) : Few ((l.filter fun x => !inK ks x.key) ++ [oneOf (l.filter fun x => inK ks x.key)]) := by
  have hD : (l.filter fun x => inK ks x.key) ≠ [] := fun e => by have := hr.two; rw [e] at this; simp at this
  obtain ⟨d, hd, e1, e2, e3, e4, e5⟩ := oneOf_same hD
  have hdl := (List.mem_filter.1 hd).1
  have hlen := len_filter (fun x => inK ks x.key) l
  have hpos : ∀ x ∈ l.filter fun x => inK ks x.key, 1 ≤ x.rows := fun x hx => hl.pos x (List.mem_filter.1 hx).1
  refine ⟨fun x hx => ?_, ?_, ?_, fun x hx => ?_⟩
  · rcases List.mem_append.1 hx with h | h
    · exact hl.pos x (List.mem_filter.1 h).1
    · rw [List.mem_singleton.1 h, oneOf_rows hD]
      have h1 := sumR_nn hpos
      have h2 := hr.two
      omega
  · rw [List.pairwise_append]
    refine ⟨hl.keys.filter _, List.pairwise_singleton _ _, fun x hx y hy e => ?_⟩
    rw [List.mem_singleton.1 hy, e3] at e
    have h1 := List.mem_filter.1 hx
    have h2 := (List.mem_filter.1 hd).2
    rw [← e] at h2
    simp [h2] at h1
  · rw [sumR_app]
    have h1 := sumR_filter (fun x => inK ks x.key) l
    have h2 := hl.sum
    have h3 := oneOf_rows hD
    simp only [sumR]
    omega
  · rcases List.mem_append.1 hx with h | h
    · exact hl.size x (List.mem_filter.1 h).1
    · rw [List.mem_singleton.1 h, e4, e5]
      exact hl.size d hdl
/-- behind the last round: no two go together -/
theorem none_left {small most : Int} {l fs : List EntV} (hl : Few l) (hp : fs.Pairwise (fun x y => ltE x y = true)) (hm : ∀ x, x ∈ fs ↔ x ∈ l ∧ x.rows < small) (he : cho most fs = []) : ∀ i k, k < i → i < l.length → togB (l.getD i ent0) (l.getD k ent0) small most = false := by
  intro i k hki hil
  have e1 : l.getD i ent0 = l[i] := by simp [hil]
  have e2 : l.getD k ent0 = l[k]'(by omega) := by simp [show k < l.length by omega]
  rw [e1, e2]
  cases ht : togB l[i] (l[k]'(by omega)) small most with
  | false => rfl
  | true =>
    exfalso
    unfold togB at ht
    simp only [Bool.and_eq_true, decide_eq_true_eq] at ht
    obtain ⟨⟨⟨⟨⟨h1, h2⟩, h3⟩, h4⟩, h5⟩, h6⟩ := ht
    have ha : l[i] ∈ fs := (hm _).2 ⟨List.getElem_mem _, h3⟩
    have hb : (l[k]'(by omega)) ∈ fs := (hm _).2 ⟨List.getElem_mem _, h4⟩
    have hne : l[i] ≠ (l[k]'(by omega)) := fun e => by
      have := List.pairwise_iff_getElem.1 hl.keys k i (by omega) hil hki
      exact this (by rw [e])
    have hpw := cho_none fs he (allruns_of fs hp)
    obtain ⟨p, hp1, hp2⟩ := List.mem_iff_getElem.1 ha
    obtain ⟨q, hq1, hq2⟩ := List.mem_iff_getElem.1 hb
    rw [List.pairwise_iff_getElem] at hpw
    rcases Nat.lt_trichotomy p q with c | c | c
    · refine hpw p q hp1 hq1 c ?_
      rw [hp2, hq2]; exact ⟨h1.symm, h2.symm, by omega⟩
    · subst c
      exact hne (hp2.symm.trans hq2)
    · refine hpw q p hq1 hp1 c ?_
      rw [hp2, hq2]; exact ⟨h1, h2, by omega⟩
end Go.Proofs.Yteihbbmbdkkbbaa
