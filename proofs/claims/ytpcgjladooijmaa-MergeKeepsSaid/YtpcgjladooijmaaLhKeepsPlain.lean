/- Which list a merged row is out of. Plain. -/
import Derived.Test.YtpcgjladooijmaaLhAgree
namespace Go.Proofs.Ytpcgjladooijmaa
open Go.ChangeShapes Go.WideShapes Go.Deep Go.RowKit LabPlain RecPlain
set_option linter.unusedVariables false

/-- row j of list i -/
def rw2 (ls : List LsV) (i j : Nat) : RowV := (ls.getD i ls0).rs.getD j row0
def ln2 (ls : List LsV) (i : Nat) : Nat := (ls.getD i ls0).rs.length
/-- all rows, strictly in order -/
structure Al (ls : List LsV) (out : List RowV) : Prop where
  perm : out.Perm (ls.flatMap LsV.rs)
  srt : out.Pairwise (fun a b => a.rank < b.rank)
  each : ∀ x ∈ ls, x.rs.Pairwise (fun a b => a.rank < b.rank)
theorem getD_lt {α : Type} {l : List α} {i : Nat} {d : α} (h : i < l.length) : l.getD i d = l[i] := by simp [h]
theorem Al.strict {ls : List LsV} {out : List RowV} (h : Al ls out) {s t : Nat} (hst : s < t) (ht : t < out.length) : (out.getD s row0).rank < (out.getD t row0).rank := by
  rw [getD_lt (show s < out.length by omega), getD_lt ht]
  exact List.pairwise_iff_getElem.1 h.srt s t (by omega) ht hst
theorem Al.list {ls : List LsV} {out : List RowV} (h : Al ls out) {i j k : Nat} (hi : i < ls.length) (hjk : j < k) (hk : k < ln2 ls i) : (rw2 ls i j).rank < (rw2 ls i k).rank := by
  unfold rw2 ln2 at *
  rw [getD_lt (show j < (ls.getD i ls0).rs.length by omega), getD_lt hk]
  exact List.pairwise_iff_getElem.1 (h.each _ (ls_mem hi)) j k (by omega) hk hjk
theorem Al.out {ls : List LsV} {out : List RowV} (h : Al ls out) {i j : Nat} (hi : i < ls.length) (hj : j < ln2 ls i) : ∃ s, s < out.length ∧ out.getD s row0 = rw2 ls i j := by
  have h1 : rw2 ls i j ∈ ls.flatMap LsV.rs := List.mem_flatMap.2 ⟨_, ls_mem hi, row_mem hj⟩
  obtain ⟨s, hs, e⟩ := List.getElem_of_mem (h.perm.mem_iff.2 h1)
  exact ⟨s, hs, by rw [getD_lt hs]; exact e⟩
theorem Al.from {ls : List LsV} {out : List RowV} (h : Al ls out) {s : Nat} (hs : s < out.length) : ∃ i j, i < ls.length ∧ j < ln2 ls i ∧ rw2 ls i j = out.getD s row0 := by
  have h1 : out.getD s row0 ∈ ls.flatMap LsV.rs := h.perm.mem_iff.1 (row_mem hs)
  obtain ⟨y, hy, hxy⟩ := List.mem_flatMap.1 h1
  obtain ⟨i, hi, rfl⟩ := List.getElem_of_mem hy
  obtain ⟨j, hj, e⟩ := List.getElem_of_mem hxy
  refine ⟨i, j, hi, ?_, ?_⟩
  · unfold ln2; rw [getD_lt hi]; exact hj
  · unfold rw2; rw [getD_lt hi, getD_lt hj]; exact e
theorem Al.apart {ls : List LsV} {out : List RowV} (h : Al ls out) {i i' j j' : Nat} (hi : i < ls.length) (hi' : i' < ls.length) (hne : i ≠ i') (hj : j < ln2 ls i) (hj' : j' < ln2 ls i') : (rw2 ls i j).rank ≠ (rw2 ls i' j').rank := by
  have h1 : out.Pairwise (fun a b => a.rank ≠ b.rank) := h.srt.imp (fun h e => by omega)
  have h2 : (ls.flatMap LsV.rs).Pairwise (fun a b => a.rank ≠ b.rank) := (h.perm.pairwise_iff (fun h e => h e.symm)).1 h1
  have h3 := (List.pairwise_flatMap.1 h2).2
  unfold rw2 ln2 at *
  rw [getD_lt hi] at hj ⊢
  rw [getD_lt hi'] at hj' ⊢
  rw [getD_lt hj, getD_lt hj']
  rcases Nat.lt_or_gt_of_ne hne with g | g
  · exact List.pairwise_iff_getElem.1 h3 i i' hi hi' g _ (List.getElem_mem hj) _ (List.getElem_mem hj')
  · exact fun e => List.pairwise_iff_getElem.1 h3 i' i hi' hi g _ (List.getElem_mem hj') _ (List.getElem_mem hj) e.symm
/-- behind t rows: how far each list has come -/
structure Kp (ls : List LsV) (out : List RowV) (t : Nat) (at' : List Nat) : Prop where
  len : at'.length = ls.length
  le : ∀ i, i < ls.length → at'.getD i 0 ≤ ln2 ls i
  old : ∀ i, i < ls.length → ∀ j, j < at'.getD i 0 → ∃ s, s < t ∧ (rw2 ls i j).rank = (out.getD s row0).rank
  new : ∀ i, i < ls.length → ∀ j, at'.getD i 0 ≤ j → j < ln2 ls i → ∀ s, s < t → (out.getD s row0).rank < (rw2 ls i j).rank
theorem Kp.start (ls : List LsV) (out : List RowV) : Kp ls out 0 (List.replicate ls.length 0) :=
  ⟨by simp, fun i hi => by simp [hi], fun i hi j hj => by simp [hi] at hj, fun i hi j _ _ s hs => by omega⟩
theorem Kp.hit {ls : List LsV} {out : List RowV} {t : Nat} {at' : List Nat} (a : Al ls out) (h : Kp ls out t at') (ht : t < out.length) : ∃ i, i < ls.length ∧ at'.getD i 0 < ln2 ls i ∧ rw2 ls i (at'.getD i 0) = out.getD t row0 := by
  obtain ⟨i, j, hi, hj, e⟩ := a.from ht
  have h1 : at'.getD i 0 ≤ j := by
    rcases Nat.lt_or_ge j (at'.getD i 0) with g | g
    · obtain ⟨s, hs, e2⟩ := h.old i hi j g
      have := a.strict hs ht
      rw [e] at e2
      omega
    · exact g
  rcases Nat.lt_or_ge (at'.getD i 0) j with g | g
  · exfalso
    have h2 := a.list hi g hj
    obtain ⟨s, hs, e2⟩ := a.out hi (show at'.getD i 0 < ln2 ls i by omega)
    rw [← e2, e] at h2
    rcases Nat.lt_or_ge s t with g2 | g2
    · have := h.new i hi (at'.getD i 0) (Nat.le_refl _) (by omega) s g2
      rw [e2] at this
      omega
    · rcases Nat.lt_or_ge t s with g3 | g3
      · have := a.strict g3 hs; omega
      · obtain rfl : s = t := by omega
        omega
  · obtain rfl : j = at'.getD i 0 := by omega
    exact ⟨i, hi, hj, e⟩
theorem set_at (l : List Nat) (i k v : Nat) (hi : i < l.length) : (l.set i v).getD k 0 = if k = i then v else l.getD k 0 := by
  rw [List.getD_eq_getElem?_getD, List.getElem?_set]
  by_cases e : k = i
  · subst e; simp [hi]
  · rw [if_neg e, if_neg (fun h => e h.symm), List.getD_eq_getElem?_getD]
theorem Kp.step {ls : List LsV} {out : List RowV} {t i : Nat} {at' : List Nat} (a : Al ls out) (h : Kp ls out t at') (ht : t < out.length) (hi : i < ls.length) (hl : at'.getD i 0 < ln2 ls i) (he : (rw2 ls i (at'.getD i 0)).rank = (out.getD t row0).rank) : Kp ls out (t + 1) (at'.set i (at'.getD i 0 + 1)) := by
  have hil : i < at'.length := by rw [h.len]; exact hi
  refine ⟨by rw [List.length_set]; exact h.len, fun k hk => ?_, fun k hk j hj => ?_, fun k hk j hj hjl s hs => ?_⟩
  · rw [set_at _ _ _ _ hil]
    split
    · rename_i e; subst e; omega
    · exact h.le k hk
  · rw [set_at _ _ _ _ hil] at hj
    split at hj
    · rename_i e
      subst e
      rcases Nat.lt_or_ge j (at'.getD k 0) with g | g
      · obtain ⟨s, hs, e⟩ := h.old k hk j g
        exact ⟨s, by omega, e⟩
      · obtain rfl : j = at'.getD k 0 := by omega
        exact ⟨t, by omega, he⟩
    · obtain ⟨s, hs, e⟩ := h.old k hk j hj
      exact ⟨s, by omega, e⟩
  · rw [set_at _ _ _ _ hil] at hj
    rcases Nat.lt_or_ge s t with g | g
    · refine h.new k hk j ?_ hjl s g
      split at hj
      · rename_i e; subst e; omega
      · exact hj
    · obtain rfl : s = t := by omega
      split at hj
      · rename_i e
        subst e
        rw [← he]
        exact a.list hk (by omega) hjl
      · rename_i hne
        have h1 := a.apart hk hi hne hjl hl
        rw [he] at h1
        obtain ⟨s', hs', e'⟩ := a.out hk hjl
        rw [← e'] at h1 ⊢
        rcases Nat.lt_or_ge s' s with g3 | g3
        · have := h.new k hk j hj hjl s' g3
          rw [e'] at this
          omega
        · rcases Nat.lt_or_ge s s' with g4 | g4
          · exact a.strict g4 hs'
          · obtain rfl : s = s' := by omega
            exact absurd rfl h1
theorem Kp.done {ls : List LsV} {out : List RowV} {at' : List Nat} (a : Al ls out) (h : Kp ls out out.length at') {i : Nat} (hi : i < ls.length) : at'.getD i 0 = ln2 ls i := by
  have h1 := h.le i hi
  rcases Nat.lt_or_ge (at'.getD i 0) (ln2 ls i) with g | g
  · obtain ⟨s, hs, e⟩ := a.out hi g
    have := h.new i hi _ (Nat.le_refl _) g s hs
    rw [e] at this
    omega
  · omega
end Go.Proofs.Ytpcgjladooijmaa
