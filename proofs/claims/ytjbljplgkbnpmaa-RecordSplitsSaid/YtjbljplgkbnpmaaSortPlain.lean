/- One row put behind those that are not behind it: the document's sort, a step of it. Plain; and parts of a row of rows. -/
import Derived.Test.YtjbljplgkbnpmaaInsWeak
import Derived.Test.YtjbljplgkbnpmaaRecRows
namespace Go.Proofs.Ytjbljplgkbnpmaa
open Go.RowKit LabPlain RecPlain Stab
set_option linter.unusedVariables false

def atR (l : List RowV) : Nat → RowV := fun k => l.getD k row0
theorem cmp_turn (x y : RowV) : 0 < cmpRow x y ↔ ltR y x = true := by
  unfold ltR
  rw [decide_eq_true_iff, cmpRow_lex]
  unfold cmpRow RowV.key
  simp only [cmpL]
  repeat' split
  all_goals omega
def ins1 (rs : List RowV) (m : Nat) (r : RowV) : List RowV := rs.take m ++ [r] ++ rs.drop m
theorem ins1_len (rs : List RowV) (m : Nat) (r : RowV) (h : m ≤ rs.length) : (ins1 rs m r).length = rs.length + 1 := by
  unfold ins1; simp; omega
theorem ins1_at (rs : List RowV) (m : Nat) (r : RowV) (h : m ≤ rs.length) (i : Nat) (hi : i ≤ rs.length) : atR (ins1 rs m r) i = if i < m then atR rs i else if i = m then r else atR rs (i - 1) := by
  unfold atR ins1
  simp only [List.getD_eq_getElem?_getD]
  split
  · rename_i g
    rw [List.append_assoc, List.getElem?_append_left (by simp; omega), List.getElem?_take_of_lt g]
  · split
    · rename_i g1 g2
      subst g2
      rw [List.append_assoc, List.getElem?_append_right (by rw [List.length_take]; omega), List.length_take, Nat.min_eq_left h, Nat.sub_self]
      rfl
    · rename_i g1 g2
      rw [List.getElem?_append_right (by simp; omega), List.length_append, List.length_take, Nat.min_eq_left h, List.length_singleton, List.getElem?_drop, show m + (i - (m + 1)) = i - 1 by omega]
theorem ins1_mem {rs : List RowV} {m : Nat} {r x : RowV} (h : x ∈ ins1 rs m r) : x ∈ rs ∨ x = r := by
  unfold ins1 at h
  rcases List.mem_append.1 h with g | g
  · rcases List.mem_append.1 g with g | g
    · exact .inl (List.mem_of_mem_take g)
    · exact .inr (by simpa using g)
  · exact .inl (List.mem_of_mem_drop g)
theorem stable_ins {f : Nat → RowV} {rs : List RowV} {k m : Nat} (hl : rs.length = k) (hs : Stable ltR f (atR rs) k) (hmk : m ≤ k) (hlo : 0 < m → ltR (f k) (atR rs (m - 1)) = false) (hhi : ∀ j, m ≤ j → j < k → ltR (f k) (atR rs j) = true) : Stable ltR f (atR (ins1 rs m (f k))) (k + 1) := by
  obtain ⟨t, h1, h2, h3⟩ := hs
  obtain ⟨u, hu⟩ : ∃ u : Nat → RowV × Nat, u = fun i => if i = k then (f k, k) else t i := ⟨_, rfl⟩
  have u1 : u k = (f k, k) := by rw [hu]; simp
  have u2 : ∀ i, i < k → u i = t i := fun i hi => by rw [hu]; simp [show i ≠ k by omega]
  have age : ∀ i, i < k → (t i).2 < k := fun i hi => by
    obtain ⟨j, hj, e⟩ := (h3 (t i)).1 ⟨i, Nat.zero_le _, hi, rfl⟩
    rw [e]; exact hj
  refine ⟨rot u m k (k + 1), fun i hi => ?_, ?_, fun x => ?_⟩
  · rw [ins1_at rs m (f k) (by omega) i (by omega)]
    unfold rot
    split
    · rename_i g
      split
      · rw [show i + (k - m) = k by omega, u1, if_neg (by omega), if_pos (by omega)]
      · rw [u2 _ (by omega), h1 _ (by omega), if_neg (by omega), if_neg (by omega)]; exact at_eq _ (by omega)
    · rw [u2 i (by omega), h1 i (by omega), if_pos (by omega)]
  · refine Srt.insert (h2.congr (fun i _ hi => u2 i hi)) (Nat.zero_le _) hmk (fun i _ hi => ?_) (fun i hi hik => ?_)
    · have hlast : Tag ltR (u (m - 1)) (u k) := by
        rw [u1, u2 _ (by omega)]
        refine .inr ⟨?_, age _ (by omega)⟩
        rw [h1 _ (by omega)]; exact hlo (by omega)
      by_cases e : i = m - 1
      · rw [e]; exact hlast
      · refine weak_ltR.tag_tr _ _ _ ?_ hlast
        rw [u2 _ (by omega), u2 _ (by omega)]; exact h2 i (m - 1) (Nat.zero_le _) (by omega) (by omega)
    · rw [u1, u2 _ hik]
      refine .inl ?_
      rw [h1 _ hik]; exact hhi i hi hik
  · have : Mem (rot u m k (k + 1)) 0 (k + 1) x ↔ Mem u 0 (k + 1) x := by
      rw [mem_cut _ 0 m (k + 1) (Nat.zero_le _) (by omega), mem_rot u m k (k + 1) hmk (by omega), mem_congr (f := u) (g := rot u m k (k + 1)) (a := 0) (b := m) (fun i _ hi => by unfold rot; rw [if_neg (by omega)]), ← mem_cut u 0 m (k + 1) (Nat.zero_le _) (by omega)]
    rw [this, mem_cut u 0 k (k + 1) (Nat.zero_le _) (by omega), mem_congr (f := t) (g := u) (a := 0) (b := k) (fun i _ hi => u2 i hi), h3 x]
    constructor
    · rintro (⟨i, hi, e⟩ | ⟨i, hi1, hi2, e⟩)
      · exact ⟨i, by omega, e⟩
      · obtain rfl : i = k := by omega
        exact ⟨i, by omega, by rw [← e, u1]⟩
    · rintro ⟨i, hi, e⟩
      by_cases g : i = k
      · exact .inr ⟨k, Nat.le_refl _, by omega, by rw [u1, e, g]⟩
      · exact .inl ⟨i, by omega, e⟩
theorem stable_none (f : Nat → RowV) (g : Nat → RowV) : Stable ltR f g 0 :=
  ⟨fun i => (g i, i), fun i hi => absurd hi (Nat.not_lt_zero _), fun i j _ h1 h2 => absurd h2 (Nat.not_lt_zero _), fun x => ⟨fun ⟨i, _, h, _⟩ => absurd h (Nat.not_lt_zero _), fun ⟨i, h, _⟩ => absurd h (Nat.not_lt_zero _)⟩⟩

theorem rcells_app (l m : List RowV) : rcells (l ++ m) = rcells l ++ rcells m := by unfold rcells; simp
theorem rcells_all (l : List RowV) : ∀ u ∈ rcells l, u.oneCell' = true := by
  intro u hu
  unfold rcells at hu
  obtain ⟨x, _, hx⟩ := List.mem_flatMap.1 hu
  exact rcells_one x u hx
/-- the cells of some rows, from a place on -/
theorem src_own {w : World} {base g k cap : Nat} {rs : List RowV} (h : w.ownsRow base 62 9 (.slice (some ⟨g, 0, none⟩) k cap) k (rcells rs)) : ∀ j u, (rcells rs)[j]? = some u → w.cell? ⟨g, j, none⟩ = some u := by
  intro j u hu
  rcases h.2 with ⟨h0, _⟩ | ⟨g', cap', cur, he, hg, hh, hnc, hcap, hsz, htake⟩
  · cases h0
  · cases he
    have hlt := (List.getElem?_eq_some_iff.1 hu).1
    rw [cell_of_row w _ _ _ _ (0, 0) hh, ← hu, ← htake, List.getElem?_take_of_lt (by rw [h.1] at hlt; exact hlt), Array.getElem?_toList]
theorem src_take {w : World} {base g k cap m : Nat} {rs : List RowV} (h : w.ownsRow base 62 9 (.slice (some ⟨g, 0, none⟩) k cap) k (rcells rs)) : ∀ j u, (rcells (rs.take m))[j]? = some u → w.cell? ((⟨g, 0, none⟩ : Addr).add j) = some u := by
  intro j u hu
  rw [Addr.add_mid, Nat.zero_add]
  refine src_own h j u ?_
  have : rcells rs = rcells (rs.take m) ++ rcells (rs.drop m) := by rw [← rcells_app, List.take_append_drop]
  rw [this, List.getElem?_append_left (List.getElem?_eq_some_iff.1 hu).1, hu]
theorem src_drop {w : World} {base g k cap m : Nat} {rs : List RowV} (h : w.ownsRow base 62 9 (.slice (some ⟨g, 0, none⟩) k cap) k (rcells rs)) (hm : m ≤ rs.length) : ∀ j u, (rcells (rs.drop m))[j]? = some u → w.cell? ((⟨g, m * 9, none⟩ : Addr).add j) = some u := by
  intro j u hu
  rw [Addr.add_mid]
  refine src_own h _ u ?_
  have : rcells rs = rcells (rs.take m) ++ rcells (rs.drop m) := by rw [← rcells_app, List.take_append_drop]
  rw [this, List.getElem?_append_right (by rw [rcells_len, List.length_take]; omega), rcells_len, List.length_take, show m * 9 + j - min m rs.length * 9 = j by omega, hu]
end Go.Proofs.Ytjbljplgkbnpmaa
