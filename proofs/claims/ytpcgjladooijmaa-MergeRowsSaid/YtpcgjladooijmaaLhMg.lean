/- Merging, plain: what is out, what is pending. -/
import Derived.Test.YtpcgjladooijmaaLhRank
import Derived.Test.YtpcgjladooijmaaLhRise
namespace Go.Proofs.Ytpcgjladooijmaa
open Go.ChangeShapes Go.WideShapes Go.Deep Go.RowKit LabPlain RecPlain
set_option linter.unusedVariables false

theorem rises_pw : ∀ {l : List RowV}, (∀ x ∈ l, x.fits) → rises l = true → l.Pairwise (fun a b => a.rank < b.rank)
  | [], _, _ => List.Pairwise.nil
  | [x], _, _ => List.pairwise_singleton _ _
  | x :: y :: l, hf, h => by
    simp only [rises, Bool.and_eq_true, decide_eq_true_eq] at h
    have h1 := (rank_lt (hf x (by simp)) (hf y (by simp))).1 h.1
    have ih := rises_pw (l := y :: l) (fun z hz => hf z (List.mem_cons_of_mem _ hz)) h.2
    refine List.pairwise_cons.2 ⟨fun z hz => ?_, ih⟩
    rcases List.mem_cons.1 hz with e | e
    · rw [e]; exact h1
    · have := (List.pairwise_cons.1 ih).1 z e
      omega
theorem pw_rises : ∀ {l : List RowV}, (∀ x ∈ l, x.fits) → l.Pairwise (fun a b => a.rank < b.rank) → rises l = true
  | [], _, _ => rfl
  | [x], _, _ => rfl
  | x :: y :: l, hf, h => by
    simp only [rises, Bool.and_eq_true, decide_eq_true_eq]
    exact ⟨(rank_lt (hf x (by simp)) (hf y (by simp))).2 ((List.pairwise_cons.1 h).1 y (by simp)), pw_rises (l := y :: l) (fun z hz => hf z (List.mem_cons_of_mem _ hz)) (List.pairwise_cons.1 h).2⟩
/-- what is out, and the lists that are pending -/
structure Mg (all out : List RowV) (cur : List LsV) : Prop where
  perm : (out ++ cur.flatMap LsV.rs).Perm all
  srt : out.Pairwise (fun a b => a.rank ≤ b.rank)
  le : ∀ o ∈ out, ∀ r ∈ cur.flatMap LsV.rs, o.rank ≤ r.rank
  ri : ∀ x ∈ cur, x.rs ≠ [] ∧ x.rs.Pairwise (fun a b => a.rank < b.rank)
theorem Mg.turn {all out : List RowV} {cur cur' : List LsV} (h : Mg all out cur) (hp : cur'.Perm cur) : Mg all out cur' := by
  have hf : (cur'.flatMap LsV.rs).Perm (cur.flatMap LsV.rs) := hp.flatMap_right _
  exact ⟨(List.Perm.append_left out hf).trans h.perm, h.srt, fun o ho r hr => h.le o ho r (hf.mem_iff.1 hr), fun x hx => h.ri x (hp.mem_iff.1 hx)⟩
theorem Mg.least {all out : List RowV} {x : LsV} {cur : List LsV} (h : Mg all out (x :: cur)) (hk : ∀ y ∈ cur, x.key ≤ y.key) : ∀ r ∈ (x :: cur).flatMap LsV.rs, (x.rs.getD 0 row0).rank ≤ r.rank := by
  have hh : ∀ y ∈ x :: cur, ∀ r ∈ y.rs, y.key ≤ r.rank := by
    intro y hy r hr
    obtain ⟨h1, h2⟩ := h.ri y hy
    unfold LsV.key
    cases hrs : y.rs with
    | nil => exact absurd hrs h1
    | cons s t =>
      rw [hrs] at h2 hr
      show s.rank ≤ r.rank
      rcases List.mem_cons.1 hr with e | e
      · rw [e]; exact Int.le_refl _
      · have := (List.pairwise_cons.1 h2).1 r e
        omega
  intro r hr
  obtain ⟨y, hy, hr⟩ := List.mem_flatMap.1 hr
  have h1 := hh y hy r hr
  rcases List.mem_cons.1 hy with e | e
  · rw [e] at h1; exact h1
  · have := hk y e
    exact Int.le_trans this h1
/-- the least one goes out -/
theorem Mg.step {all out : List RowV} {x x' : LsV} {cur : List LsV} {r : RowV} {t : List RowV} (h : Mg all out (x :: cur)) (hk : ∀ y ∈ cur, x.key ≤ y.key) (hx : x.rs = r :: t) (hx' : x'.rs = t) (hn : t ≠ []) : Mg all (out ++ [r]) (x' :: cur) := by
  have hl := h.least hk
  rw [hx] at hl
  have hl' : ∀ s ∈ (x :: cur).flatMap LsV.rs, r.rank ≤ s.rank := hl
  have h2 := (h.ri x (by simp)).2
  rw [hx] at h2
  refine ⟨?_, ?_, fun o ho s hs => ?_, fun y hy => ?_⟩
  · have := h.perm
    rw [List.flatMap_cons, hx] at this
    rw [List.flatMap_cons, hx', List.append_assoc]
    exact this
  · refine List.pairwise_append.2 ⟨h.srt, List.pairwise_singleton _ _, fun a ha b hb => ?_⟩
    rw [List.mem_singleton.1 hb]
    exact h.le a ha r (by rw [List.flatMap_cons, hx]; simp)
  · have hs' : s ∈ (x :: cur).flatMap LsV.rs := by
      rw [List.flatMap_cons, hx'] at hs
      rw [List.flatMap_cons, hx]
      exact List.mem_append.2 ((List.mem_append.1 hs).imp (fun e => List.mem_cons_of_mem _ e) id)
    rcases List.mem_append.1 ho with e | e
    · exact h.le o e s hs'
    · rw [List.mem_singleton.1 e]; exact hl' s hs'
  · rcases List.mem_cons.1 hy with e | e
    · rw [e, hx']; exact ⟨hn, (List.pairwise_cons.1 h2).2⟩
    · exact h.ri y (List.mem_cons_of_mem _ e)
theorem Mg.last {all out : List RowV} {x : LsV} {cur : List LsV} {r : RowV} (h : Mg all out (x :: cur)) (hk : ∀ y ∈ cur, x.key ≤ y.key) (hx : x.rs = [r]) : Mg all (out ++ [r]) cur := by
  have hl := h.least hk
  rw [hx] at hl
  have hl' : ∀ s ∈ (x :: cur).flatMap LsV.rs, r.rank ≤ s.rank := hl
  refine ⟨?_, ?_, fun o ho s hs => ?_, fun y hy => h.ri y (List.mem_cons_of_mem _ hy)⟩
  · have := h.perm
    rw [List.flatMap_cons, hx] at this
    rw [List.append_assoc]
    exact this
  · refine List.pairwise_append.2 ⟨h.srt, List.pairwise_singleton _ _, fun a ha b hb => ?_⟩
    rw [List.mem_singleton.1 hb]
    exact h.le a ha r (by rw [List.flatMap_cons, hx]; simp)
  · have hs' : s ∈ (x :: cur).flatMap LsV.rs := by rw [List.flatMap_cons]; exact List.mem_append_right _ hs
    rcases List.mem_append.1 ho with e | e
    · exact h.le o e s hs'
    · rw [List.mem_singleton.1 e]; exact hl' s hs'
end Go.Proofs.Ytpcgjladooijmaa
