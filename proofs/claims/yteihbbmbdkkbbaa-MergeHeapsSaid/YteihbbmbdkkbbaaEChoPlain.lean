/- What is chosen of entries, plainly: the program's way (few, sorted, one behind the other) and the document's (all, sorted, each with each). -/
import Derived.Test.YteihbbmbdkkbbaaEInsWeak
namespace Go.Proofs.Yteihbbmbdkkbbaa
open Stab LabPlain
set_option linter.unusedVariables false

/-- behind the first one: those put together with it, until one of another window or part -/
def tog (f : EntV) (most : Int) : Int → List EntV → List ByteArray
  | _, [] => []
  | r, x :: l => if x.win ≠ f.win ∨ x.part ≠ f.part then [] else if r + x.rows ≤ most then x.key :: tog f most (r + x.rows) l else tog f most r l
def cho (most : Int) : List EntV → List ByteArray
  | [] => []
  | f :: l => if tog f most f.rows l = [] then cho most l else f.key :: tog f most f.rows l
/-- the document's -/
def rtog (f : EntV) (small most : Int) : Int → List EntV → List ByteArray
  | _, [] => []
  | r, x :: l => if x.win = f.win ∧ x.part = f.part ∧ x.rows < small ∧ x.rows ≤ most - r then x.key :: rtog f small most (r + x.rows) l else rtog f small most r l
def togB (a b : EntV) (small most : Int) : Bool := decide (a.win = b.win) && decide (a.part = b.part) && decide (a.rows < small) && decide (b.rows < small) && decide (a.rows ≤ most) && decide (b.rows ≤ most - a.rows)
/-- the first that may be put together with f, and all that then go with them -/
def rfirst (f : EntV) (small most : Int) : List EntV → List ByteArray
  | [] => []
  | x :: l => if togB f x small most = true then f.key :: x.key :: rtog f small most (f.rows + x.rows) l else rfirst f small most l
def rcho (small most : Int) : List EntV → List ByteArray
  | [] => []
  | f :: l => if rfirst f small most l = [] then rcho small most l else rfirst f small most l

theorem rfirst_eq {f : EntV} {small most : Int} : ∀ l : List EntV, rfirst f small most l = if f.rows < small ∧ f.rows ≤ most ∧ rtog f small most f.rows l ≠ [] then f.key :: rtog f small most f.rows l else []
  | [] => by simp [rfirst, rtog]
  | x :: l => by
    rw [rfirst, rtog, rfirst_eq l]
    by_cases h : x.win = f.win ∧ x.part = f.part ∧ x.rows < small ∧ x.rows ≤ most - f.rows
    · rw [if_pos h]
      obtain ⟨h1, h2, h3, h4⟩ := h
      by_cases g : f.rows < small ∧ f.rows ≤ most
      · rw [if_pos (by unfold togB; simp [h1, h2, h3, h4, g.1, g.2]), if_pos ⟨g.1, g.2, by simp⟩]
      · rw [if_neg (by unfold togB; simp only [Bool.and_eq_true, decide_eq_true_eq]; intro e; exact g ⟨e.1.1.1.2, e.1.2⟩), if_neg (fun e => g ⟨e.1, e.2.1⟩), if_neg (fun e => g ⟨e.1, e.2.1⟩)]
    · rw [if_neg h, if_neg (by unfold togB; simp only [Bool.and_eq_true, decide_eq_true_eq]; intro e; exact h ⟨e.1.1.1.1.1.symm, e.1.1.1.1.2.symm, e.1.1.2, e.2⟩)]

/-- one stretch of equal window and part: none of it behind one that is of another -/
def Runs (f : EntV) : List EntV → Prop
  | [] => True
  | x :: l => ((x.win ≠ f.win ∨ x.part ≠ f.part) → ∀ y ∈ l, y.win ≠ f.win ∨ y.part ≠ f.part) ∧ Runs f l
theorem rtog_none {f : EntV} {small most : Int} : ∀ (l : List EntV) (r : Int), (∀ y ∈ l, y.win ≠ f.win ∨ y.part ≠ f.part) → rtog f small most r l = []
  | [], _, _ => rfl
  | x :: l, r, h => by
    rw [rtog, if_neg (fun e => by rcases h x (by simp) with g | g; exact g e.1; exact g e.2.1), rtog_none l r (fun y hy => h y (by simp [hy]))]
theorem tog_eq {f : EntV} {small most : Int} : ∀ (l : List EntV) (r : Int), Runs f l → tog f most r (l.filter fun x => decide (x.rows < small)) = rtog f small most r l
  | [], _, _ => rfl
  | x :: l, r, h => by
    obtain ⟨h1, h2⟩ := h
    by_cases hs : x.rows < small
    · rw [List.filter_cons_of_pos (by simp [hs]), tog, rtog]
      by_cases hw : x.win ≠ f.win ∨ x.part ≠ f.part
      · rw [if_pos hw, if_neg (fun e => by rcases hw with g | g; exact g e.1; exact g e.2.1), rtog_none l r (h1 hw)]
      · have hw1 : x.win = f.win := Decidable.byContradiction fun e => hw (.inl e)
        have hw2 : x.part = f.part := Decidable.byContradiction fun e => hw (.inr e)
        rw [if_neg hw]
        by_cases hr : r + x.rows ≤ most
        · rw [if_pos hr, if_pos ⟨hw1, hw2, hs, by omega⟩, tog_eq l _ h2]
        · rw [if_neg hr, if_neg (fun e => hr (by omega)), tog_eq l _ h2]
    · rw [List.filter_cons_of_neg (by simp [hs]), rtog, if_neg (fun e => hs e.2.2.1), tog_eq l r h2]
theorem tog_le {f : EntV} {most : Int} : ∀ (l : List EntV) (r : Int), (∀ x ∈ l, 1 ≤ x.rows) → tog f most r l ≠ [] → r ≤ most
  | [], r, _, h => absurd rfl h
  | x :: l, r, hp, h => by
    rw [tog] at h
    split at h
    · exact absurd rfl h
    · split at h
      · have := hp x (by simp)
        omega
      · exact tog_le l r (fun y hy => hp y (by simp [hy])) h
def AllRuns : List EntV → Prop
  | [] => True
  | f :: l => Runs f l ∧ AllRuns l
theorem cho_eq {small most : Int} : ∀ l : List EntV, AllRuns l → (∀ x ∈ l, 1 ≤ x.rows) → cho most (l.filter fun x => decide (x.rows < small)) = rcho small most l
  | [], _, _ => rfl
  | f :: l, h, hp => by
    obtain ⟨h1, h2⟩ := h
    have ih := cho_eq (small := small) (most := most) l h2 (fun y hy => hp y (by simp [hy]))
    rw [rcho]
    have hR := rfirst_eq (f := f) (small := small) (most := most) l
    by_cases hs : f.rows < small
    · rw [List.filter_cons_of_pos (by simp [hs]), cho, tog_eq l _ h1]
      by_cases he : rtog f small most f.rows l = []
      · rw [if_neg (fun e => e.2.2 he)] at hR
        rw [if_pos he, if_pos hR, ih]
      · have hm : f.rows ≤ most := by
          rw [← tog_eq l _ h1] at he
          exact tog_le _ _ (fun y hy => hp y (by simp [(List.mem_filter.1 hy).1])) he
        rw [if_pos ⟨hs, hm, he⟩] at hR
        rw [if_neg he, if_neg (by rw [hR]; simp), hR]
    · rw [if_neg (fun e => hs e.1)] at hR
      rw [List.filter_cons_of_neg (by simp [hs]), if_pos hR, ih]

/-- strictly in order, and of the same things: the same -/
theorem sorted_eq {α : Type} {R : α → α → Prop} (irr : ∀ x, ¬ R x x) (tr : ∀ x y z, R x y → R y z → R x z) : ∀ l m : List α, l.Pairwise R → m.Pairwise R → (∀ x, x ∈ l ↔ x ∈ m) → l = m
  | [], [], _, _, _ => rfl
  | [], y :: m, _, _, h => absurd ((h y).2 (by simp)) (by simp)
  | x :: l, [], _, _, h => absurd ((h x).1 (by simp)) (by simp)
  | x :: l, y :: m, hl, hm, h => by
    rw [List.pairwise_cons] at hl hm
    have hxy : x = y := by
      rcases List.mem_cons.1 ((h x).1 (by simp)) with e | e
      · exact e
      · rcases List.mem_cons.1 ((h y).2 (by simp)) with e2 | e2
        · exact e2.symm
        · exact absurd (tr _ _ _ (hm.1 x e) (hl.1 y e2)) (irr _)
    subst hxy
    have : ∀ z, z ∈ l ↔ z ∈ m := fun z => by
      constructor
      · intro hz
        rcases List.mem_cons.1 ((h z).1 (by simp [hz])) with e | e
        · subst e; exact absurd (hl.1 z hz) (irr _)
        · exact e
      · intro hz
        rcases List.mem_cons.1 ((h z).2 (by simp [hz])) with e | e
        · subst e; exact absurd (hm.1 z hz) (irr _)
        · exact e
    rw [sorted_eq irr tr l m hl.2 hm.2 this]
/-- in order by the comparison: runs of equal window and part -/
theorem runs_of {f : EntV} : ∀ l : List EntV, (∀ x ∈ l, ltE f x = true) → l.Pairwise (fun x y => ltE x y = true) → Runs f l
  | [], _, _ => trivial
  | x :: l, hf, hp => by
    rw [List.pairwise_cons] at hp
    refine ⟨fun hne y hy => ?_, runs_of l (fun y hy => hf y (by simp [hy])) hp.2⟩
    have h1 : cmpEnt f x < 0 := of_decide_eq_true (hf x (by simp))
    have h2 : cmpEnt x y < 0 := of_decide_eq_true (hp.1 y hy)
    by_cases hw : y.win = f.win
    · by_cases hq : y.part = f.part
      · exfalso
        have c1 : cmp3 f.win x.win ≤ 0 ∧ (cmp3 f.win x.win = 0 → cmpS f.part x.part ≤ 0) := by
          unfold cmpEnt or4 at h1
          simp only at h1
          split at h1
          · exact ⟨by omega, fun e => by omega⟩
          · split at h1
            · exact ⟨by omega, fun e => by omega⟩
            · exact ⟨by omega, fun e => by omega⟩
        have c2 : cmp3 x.win y.win ≤ 0 ∧ (cmp3 x.win y.win = 0 → cmpS x.part y.part ≤ 0) := by
          unfold cmpEnt or4 at h2
          simp only at h2
          split at h2
          · exact ⟨by omega, fun e => by omega⟩
          · split at h2
            · exact ⟨by omega, fun e => by omega⟩
            · exact ⟨by omega, fun e => by omega⟩
        have hwx : x.win = f.win := by
          have a1 := c1.1
          have a2 := c2.1
          unfold cmp3 at a1 a2
          rw [hw] at a2
          split at a1 <;> split at a2 <;> first | omega | (split at a1 <;> split at a2 <;> omega) | (split at a2 <;> omega) | (split at a1 <;> omega)
        have z1 : cmp3 f.win x.win = 0 := by unfold cmp3; rw [hwx]; simp
        have z2 : cmp3 x.win y.win = 0 := by unfold cmp3; rw [hwx, hw]; simp
        have p1 := c1.2 z1
        have p2 := c2.2 z2
        rw [hq] at p2
        have a := (goodS (α := ByteArray) id).anti f.part x.part
        have b := (goodS (α := ByteArray) id).anti x.part f.part
        simp only [id] at a b
        have e : cmpS f.part x.part = 0 := by omega
        have hpx : x.part = f.part := by
          unfold cmpS at e
          split at e
          · omega
          · split at e
            · omega
            · rename_i g1 g2
              exact (ltB_total (by simpa using g1) (by simpa using g2)).symm
        rcases hne with g | g
        · exact g hwx
        · exact g hpx
      · exact .inr hq
    · exact .inl hw
theorem allruns_of : ∀ l : List EntV, l.Pairwise (fun x y => ltE x y = true) → AllRuns l
  | [], _ => trivial
  | f :: l, h => by
    rw [List.pairwise_cons] at h
    exact ⟨runs_of l h.1 h.2, allruns_of l h.2⟩
/-- entries of unlike keys: never alike -/
theorem cmp_key {x y : EntV} (h : cmpEnt x y = 0) : x.key = y.key := by
  unfold cmpEnt or4 at h
  simp only at h
  split at h
  · omega
  · split at h
    · omega
    · split at h
      · omega
      · unfold cmpS at h
        split at h
        · omega
        · split at h
          · omega
          · rename_i g1 g2
            exact ltB_total (by simpa using g1) (by simpa using g2)
end Go.Proofs.Yteihbbmbdkkbbaa
