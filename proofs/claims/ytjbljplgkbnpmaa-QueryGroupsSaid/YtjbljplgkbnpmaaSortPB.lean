/- Put together out of XSortPlain, XOrdersPlain, XSortB. -/
import Derived.Test.YtjbljplgkbnpmaaInsWeak
import Derived.Test.YtjbljplgkbnpmaaRecRows
import Derived.Test.YtjbljplgkbnpmaaSort
section SecSortPB0
/- One row put behind those that are not behind it: the document's sort, a step of it. Plain; and parts of a row of rows. -/
namespace Go.Proofs.Ytjbljplgkbnpmaa
open Go.RowKit LabPlain RecPlain Stab
set_option linter.unusedVariables false

def atR (l : List RowV) : Nat → RowV := fun k => l.getD k row0
theorem cmp_turn (x y : RowV) : 0 < cmpRow x y ↔ ltR y x = true := by
  unfold ltR
  rw [decide_eq_true_iff, cmpRow_lex]
  unfold cmpRow RowV.key
  simp only [cmpL]
  repeat' split
  all_goals omega
def ins1 (rs : List RowV) (m : Nat) (r : RowV) : List RowV := rs.take m ++ [r] ++ rs.drop m
theorem ins1_len (rs : List RowV) (m : Nat) (r : RowV) (h : m ≤ rs.length) : (ins1 rs m r).length = rs.length + 1 := by
  unfold ins1; simp; omega
theorem ins1_at (rs : List RowV) (m : Nat) (r : RowV) (h : m ≤ rs.length) (i : Nat) (hi : i ≤ rs.length) : atR (ins1 rs m r) i = if i < m then atR rs i else if i = m then r else atR rs (i - 1) := by
  unfold atR ins1
  simp only [List.getD_eq_getElem?_getD]
  split
  · rename_i g
    rw [List.append_assoc, List.getElem?_append_left (by simp; omega), List.getElem?_take_of_lt g]
  · split
    · rename_i g1 g2
      subst g2
      rw [List.append_assoc, List.getElem?_append_right (by rw [List.length_take]; omega), List.length_take, Nat.min_eq_left h, Nat.sub_self]
      rfl
    · rename_i g1 g2
      rw [List.getElem?_append_right (by simp; omega), List.length_append, List.length_take, Nat.min_eq_left h, List.length_singleton, List.getElem?_drop, show m + (i - (m + 1)) = i - 1 by omega]
theorem ins1_mem {rs : List RowV} {m : Nat} {r x : RowV} (h : x ∈ ins1 rs m r) : x ∈ rs ∨ x = r := by
  unfold ins1 at h
  rcases List.mem_append.1 h with g | g
  · rcases List.mem_append.1 g with g | g
    · exact .inl (List.mem_of_mem_take g)
    · exact .inr (by simpa using g)
  · exact .inl (List.mem_of_mem_drop g)
theorem stable_ins {f : Nat → RowV} {rs : List RowV} {k m : Nat} (hl : rs.length = k) (hs : Stable ltR f (atR rs) k) (hmk : m ≤ k) (hlo : 0 < m → ltR (f k) (atR rs (m - 1)) = false) (hhi : ∀ j, m ≤ j → j < k → ltR (f k) (atR rs j) = true) : Stable ltR f (atR (ins1 rs m (f k))) (k + 1) := by
  obtain ⟨t, h1, h2, h3⟩ := hs
  obtain ⟨u, hu⟩ : ∃ u : Nat → RowV × Nat, u = fun i => if i = k then (f k, k) else t i := ⟨_, rfl⟩
  have u1 : u k = (f k, k) := by rw [hu]; simp
  have u2 : ∀ i, i < k → u i = t i := fun i hi => by rw [hu]; simp [show i ≠ k by omega]
  have age : ∀ i, i < k → (t i).2 < k := fun i hi => by
    obtain ⟨j, hj, e⟩ := (h3 (t i)).1 ⟨i, Nat.zero_le _, hi, rfl⟩
    rw [e]; exact hj
  refine ⟨rot u m k (k + 1), fun i hi => ?_, ?_, fun x => ?_⟩
  · rw [ins1_at rs m (f k) (by omega) i (by omega)]
    unfold rot
    split
    · rename_i g
      split
      · rw [show i + (k - m) = k by omega, u1, if_neg (by omega), if_pos (by omega)]
      · rw [u2 _ (by omega), h1 _ (by omega), if_neg (by omega), if_neg (by omega)]; exact at_eq _ (by omega)
    · rw [u2 i (by omega), h1 i (by omega), if_pos (by omega)]
  · refine Srt.insert (h2.congr (fun i _ hi => u2 i hi)) (Nat.zero_le _) hmk (fun i _ hi => ?_) (fun i hi hik => ?_)
    · have hlast : Tag ltR (u (m - 1)) (u k) := by
        rw [u1, u2 _ (by omega)]
        refine .inr ⟨?_, age _ (by omega)⟩
        rw [h1 _ (by omega)]; exact hlo (by omega)
      by_cases e : i = m - 1
      · rw [e]; exact hlast
      · refine weak_ltR.tag_tr _ _ _ ?_ hlast
        rw [u2 _ (by omega), u2 _ (by omega)]; exact h2 i (m - 1) (Nat.zero_le _) (by omega) (by omega)
    · rw [u1, u2 _ hik]
      refine .inl ?_
      rw [h1 _ hik]; exact hhi i hi hik
  · have : Mem (rot u m k (k + 1)) 0 (k + 1) x ↔ Mem u 0 (k + 1) x := by
      rw [mem_cut _ 0 m (k + 1) (Nat.zero_le _) (by omega), mem_rot u m k (k + 1) hmk (by omega), mem_congr (f := u) (g := rot u m k (k + 1)) (a := 0) (b := m) (fun i _ hi => by unfold rot; rw [if_neg (by omega)]), ← mem_cut u 0 m (k + 1) (Nat.zero_le _) (by omega)]
    rw [this, mem_cut u 0 k (k + 1) (Nat.zero_le _) (by omega), mem_congr (f := t) (g := u) (a := 0) (b := k) (fun i _ hi => u2 i hi), h3 x]
    constructor
    · rintro (⟨i, hi, e⟩ | ⟨i, hi1, hi2, e⟩)
      · exact ⟨i, by omega, e⟩
      · obtain rfl : i = k := by omega
        exact ⟨i, by omega, by rw [← e, u1]⟩
    · rintro ⟨i, hi, e⟩
      by_cases g : i = k
      · exact .inr ⟨k, Nat.le_refl _, by omega, by rw [u1, e, g]⟩
      · exact .inl ⟨i, by omega, e⟩
theorem stable_none (f : Nat → RowV) (g : Nat → RowV) : Stable ltR f g 0 :=
  ⟨fun i => (g i, i), fun i hi => absurd hi (Nat.not_lt_zero _), fun i j _ h1 h2 => absurd h2 (Nat.not_lt_zero _), fun x => ⟨fun ⟨i, _, h, _⟩ => absurd h (Nat.not_lt_zero _), fun ⟨i, h, _⟩ => absurd h (Nat.not_lt_zero _)⟩⟩

theorem rcells_app (l m : List RowV) : rcells (l ++ m) = rcells l ++ rcells m := by unfold rcells; simp
theorem rcells_all (l : List RowV) : ∀ u ∈ rcells l, u.oneCell' = true := by
  intro u hu
  unfold rcells at hu
  obtain ⟨x, _, hx⟩ := List.mem_flatMap.1 hu
  exact rcells_one x u hx
/-- the cells of some rows, from a place on -/
theorem src_own {w : World} {base g k cap : Nat} {rs : List RowV} (h : w.ownsRow base 62 9 (.slice (some ⟨g, 0, none⟩) k cap) k (rcells rs)) : ∀ j u, (rcells rs)[j]? = some u → w.cell? ⟨g, j, none⟩ = some u := by
  intro j u hu
  rcases h.2 with ⟨h0, _⟩ | ⟨g', cap', cur, he, hg, hh, hnc, hcap, hsz, htake⟩
  · cases h0
  · cases he
    have hlt := (List.getElem?_eq_some_iff.1 hu).1
    rw [cell_of_row w _ _ _ _ (0, 0) hh, ← hu, ← htake, List.getElem?_take_of_lt (by rw [h.1] at hlt; exact hlt), Array.getElem?_toList]
theorem src_take {w : World} {base g k cap m : Nat} {rs : List RowV} (h : w.ownsRow base 62 9 (.slice (some ⟨g, 0, none⟩) k cap) k (rcells rs)) : ∀ j u, (rcells (rs.take m))[j]? = some u → w.cell? ((⟨g, 0, none⟩ : Addr).add j) = some u := by
  intro j u hu
  rw [Addr.add_mid, Nat.zero_add]
  refine src_own h j u ?_
  have : rcells rs = rcells (rs.take m) ++ rcells (rs.drop m) := by rw [← rcells_app, List.take_append_drop]
  rw [this, List.getElem?_append_left (List.getElem?_eq_some_iff.1 hu).1, hu]
theorem src_drop {w : World} {base g k cap m : Nat} {rs : List RowV} (h : w.ownsRow base 62 9 (.slice (some ⟨g, 0, none⟩) k cap) k (rcells rs)) (hm : m ≤ rs.length) : ∀ j u, (rcells (rs.drop m))[j]? = some u → w.cell? ((⟨g, m * 9, none⟩ : Addr).add j) = some u := by
  intro j u hu
  rw [Addr.add_mid]
  refine src_own h _ u ?_
  have : rcells rs = rcells (rs.take m) ++ rcells (rs.drop m) := by rw [← rcells_app, List.take_append_drop]
  rw [this, List.getElem?_append_right (by rw [rcells_len, List.length_take]; omega), rcells_len, List.length_take, show m * 9 + j - min m rs.length * 9 = j by omega, hu]
end Go.Proofs.Ytjbljplgkbnpmaa
end SecSortPB0
section SecSortPB1
/- Two stable sorts of rows that say the same say the same. Plain. -/
namespace Go.Proofs.Ytjbljplgkbnpmaa
open Go.RowKit LabPlain RecPlain Stab
set_option linter.unusedVariables false

abbrev Say := Int × Int × List Lab × ByteArray × Int × Bool × Int × Int × Int
/-- a row that says this -/
def rowOf (s : Say) : RowV := ⟨⟨s.1, s.2.1, none, 0, 0, s.2.2.1, s.2.2.2.1, s.2.2.2.2.1, s.2.2.2.2.2.1⟩, s.2.2.2.2.2.2.1, s.2.2.2.2.2.2.2.1, s.2.2.2.2.2.2.2.2⟩
def ltS (s t : Say) : Bool := ltR (rowOf s) (rowOf t)
theorem weak_ltS : Weak ltS := ⟨fun x => weak_ltR.irr _, fun x y z => weak_ltR.tr _ _ _, fun x y z => weak_ltR.co _ _ _⟩
theorem ltR_says (x y : RowV) : ltR x y = ltS x.says y.says := rfl
theorem stable_says {f g : Nat → RowV} {F : Nat → Say} {n : Nat} (h : Stable ltR f g n) (hf : ∀ i, i < n → (f i).says = F i) : Stable ltS F (fun i => (g i).says) n := by
  obtain ⟨t, h1, h2, h3⟩ := h
  refine ⟨fun i => ((t i).1.says, (t i).2), fun i hi => by show (t i).1.says = _; rw [h1 i hi], fun i j hi hij hj => ?_, fun x => ?_⟩
  · rcases h2 i j hi hij hj with g | ⟨g1, g2⟩
    · exact .inl (by rw [← ltR_says]; exact g)
    · exact .inr ⟨by rw [← ltR_says]; exact g1, g2⟩
  · constructor
    · rintro ⟨i, hi1, hi2, rfl⟩
      obtain ⟨k, hk, e⟩ := (h3 (t i)).1 ⟨i, hi1, hi2, rfl⟩
      exact ⟨k, hk, Prod.ext (by show (t i).1.says = F k; rw [e]; exact hf k hk) (by show (t i).2 = k; rw [e])⟩
    · rintro ⟨k, hk, rfl⟩
      obtain ⟨i, hi1, hi2, e⟩ := (h3 (f k, k)).2 ⟨k, hk, rfl⟩
      exact ⟨i, hi1, hi2, Prod.ext (by show (t i).1.says = F k; rw [e]; exact hf k hk) (by show (t i).2 = k; rw [e])⟩
theorem sorts_same {l l1 l2 p q : List RowV} {n : Nat} (h1 : ∀ j, j < n → (atL l1 j).says = (atR l j).says) (hp : Stable ltR (atL l1) (atL p) n) (hq : Stable ltR (atR l) (atR q) n) (lp : p.length = n) (lq : q.length = n) : sameRs p q = true := by
  have s1 := stable_says hp h1
  have s2 := stable_says hq (fun i _ => rfl)
  unfold sameRs
  rw [decide_eq_true (by rw [lp, lq]), sameTo_yes (fun j hj => Stable.same weak_ltS s1 s2 j (by rw [← lp]; exact hj))]
  rfl

end Go.Proofs.Ytjbljplgkbnpmaa
end SecSortPB1
section SecSortPB2
/- Rows sorted, as what they say. -/
namespace Go.Proofs.Ytjbljplgkbnpmaa.Stab
set_option linter.unusedVariables false

variable {α : Type}

def insB (lt : α → α → Bool) (x : α) : List α → List α
  | [] => [x]
  | t :: l => if lt t x = true then t :: insB lt x l else x :: t :: l
def sortB (lt : α → α → Bool) : List α → List α
  | [] => []
  | x :: l => insB lt x (sortB lt l)
theorem insB_mem {lt : α → α → Bool} {x y : α} : ∀ {l : List α}, y ∈ insB lt x l ↔ y = x ∨ y ∈ l
  | [] => by simp [insB]
  | t :: l => by
    rw [insB]
    split
    · rw [List.mem_cons, insB_mem, List.mem_cons]
      constructor
      · rintro (h | h | h)
        · exact .inr (.inl h)
        · exact .inl h
        · exact .inr (.inr h)
      · rintro (h | h | h)
        · exact .inr (.inl h)
        · exact .inl h
        · exact .inr (.inr h)
    · rw [List.mem_cons]
theorem sortB_mem {lt : α → α → Bool} {y : α} : ∀ {l : List α}, y ∈ sortB lt l ↔ y ∈ l
  | [] => Iff.rfl
  | x :: l => by rw [sortB, insB_mem, sortB_mem, List.mem_cons]
theorem insB_len {lt : α → α → Bool} {x : α} : ∀ {l : List α}, (insB lt x l).length = l.length + 1
  | [] => rfl
  | t :: l => by
    rw [insB]
    split
    · rw [List.length_cons, insB_len, List.length_cons]
    · rfl
theorem sortB_len {lt : α → α → Bool} : ∀ {l : List α}, (sortB lt l).length = l.length
  | [] => rfl
  | x :: l => by rw [sortB, insB_len, sortB_len, List.length_cons]
/-- nothing less stands behind -/
def Up (lt : α → α → Bool) (l : List α) : Prop := l.Pairwise fun a b => lt b a = false
theorem insB_up {lt : α → α → Bool} (w : Weak lt) {x : α} : ∀ {l : List α}, Up lt l → Up lt (insB lt x l)
  | [], _ => List.pairwise_singleton _ _
  | t :: l, h => by
    unfold Up at h ⊢
    rw [List.pairwise_cons] at h
    rw [insB]
    split
    · rename_i g
      rw [List.pairwise_cons]
      refine ⟨fun y hy => ?_, insB_up w h.2⟩
      rcases insB_mem.1 hy with e | e
      · rw [e]; exact w.asym g
      · exact h.1 y e
    · rename_i g
      rw [Bool.not_eq_true] at g
      rw [List.pairwise_cons, List.pairwise_cons]
      refine ⟨fun y hy => ?_, h⟩
      rcases List.mem_cons.1 hy with e | e
      · rw [e]; exact g
      · exact w.co _ _ _ (h.1 y e) g
theorem sortB_up {lt : α → α → Bool} (w : Weak lt) : ∀ {l : List α}, Up lt (sortB lt l)
  | [] => List.Pairwise.nil
  | x :: l => insB_up w (sortB_up w)
/-- what is in order stays -/
theorem insB_front {lt : α → α → Bool} {x : α} {l : List α} (h : ∀ y ∈ l, lt y x = false) : insB lt x l = x :: l := by
  cases l with
  | nil => rfl
  | cons t l => rw [insB, if_neg (by rw [h t (by simp)]; decide)]
theorem insB_filter {lt : α → α → Bool} (w : Weak lt) (p : α → Bool) {x : α} : ∀ {l : List α}, Up lt l → (insB lt x l).filter p = if p x = true then insB lt x (l.filter p) else l.filter p
  | [], _ => by simp only [insB, List.filter_cons, List.filter_nil]
  | t :: l, h => by
    have h0 := h
    unfold Up at h
    rw [List.pairwise_cons] at h
    rw [insB]
    split
    · rename_i g
      rw [List.filter_cons, insB_filter w p h.2, List.filter_cons]
      by_cases ht : p t = true
      · rw [if_pos ht, if_pos ht]
        by_cases hx : p x = true
        · rw [if_pos hx, if_pos hx, insB, if_pos g]
        · rw [if_neg hx, if_neg hx]
      · rw [if_neg ht, if_neg ht]
    · rename_i g
      rw [Bool.not_eq_true] at g
      rw [List.filter_cons]
      by_cases hx : p x = true
      · rw [if_pos hx, if_pos hx]
        refine (insB_front fun y hy => ?_).symm
        rcases List.mem_cons.1 (List.mem_filter.1 hy).1 with e | e
        · rw [e]; exact g
        · exact w.co _ _ _ (h.1 y e) g
      · rw [if_neg hx, if_neg hx]
theorem sortB_filter {lt : α → α → Bool} (w : Weak lt) (p : α → Bool) : ∀ l : List α, sortB lt (l.filter p) = (sortB lt l).filter p
  | [] => rfl
  | x :: l => by
    rw [sortB, insB_filter w p (sortB_up w), List.filter_cons]
    split
    · rw [sortB, sortB_filter w p l]
    · exact sortB_filter w p l
/-- with tags: the elder first -/
def ltT (lt : α → α → Bool) (x y : α × Nat) : Bool := lt x.1 y.1
theorem weak_ltT {lt : α → α → Bool} (w : Weak lt) : Weak (ltT lt) := ⟨fun x => w.irr _, fun x y z => w.tr _ _ _, fun x y z => w.co _ _ _⟩
theorem insB_fst {lt : α → α → Bool} {x : α × Nat} : ∀ {l : List (α × Nat)}, (insB (ltT lt) x l).map Prod.fst = insB lt x.1 (l.map Prod.fst)
  | [] => rfl
  | t :: l => by
    rw [insB, List.map_cons, insB]
    by_cases g : lt t.1 x.1 = true
    · rw [if_pos g, if_pos (show ltT lt t x = true from g), List.map_cons, insB_fst]
    · rw [if_neg g, if_neg (show ¬ ltT lt t x = true from g), List.map_cons, List.map_cons]
theorem sortB_fst {lt : α → α → Bool} : ∀ {l : List (α × Nat)}, (sortB (ltT lt) l).map Prod.fst = sortB lt (l.map Prod.fst)
  | [] => rfl
  | x :: l => by rw [sortB, insB_fst, sortB_fst]; rfl
theorem insB_tag {lt : α → α → Bool} (w : Weak lt) {x : α × Nat} : ∀ {l : List (α × Nat)}, (∀ y ∈ l, x.2 < y.2) → Up (ltT lt) l → l.Pairwise (Tag lt) → (insB (ltT lt) x l).Pairwise (Tag lt)
  | [], _, _, _ => List.pairwise_singleton _ _
  | t :: l, ha, hu, h => by
    have hu0 := hu
    unfold Up at hu
    rw [List.pairwise_cons] at h hu
    rw [insB]
    split
    · rename_i g
      rw [List.pairwise_cons]
      refine ⟨fun y hy => ?_, insB_tag w (fun y hy => ha y (by simp [hy])) hu.2 h.2⟩
      rcases insB_mem.1 hy with e | e
      · rw [e]; exact .inl g
      · exact h.1 y e
    · rename_i g
      rw [Bool.not_eq_true] at g
      rw [List.pairwise_cons, List.pairwise_cons]
      refine ⟨fun y hy => ?_, h⟩
      refine .inr ⟨?_, ha y hy⟩
      rcases List.mem_cons.1 hy with e | e
      · rw [e]; exact g
      · exact (weak_ltT w).co _ _ _ (hu.1 y e) g
theorem sortB_tag {lt : α → α → Bool} (w : Weak lt) : ∀ {l : List (α × Nat)}, l.Pairwise (fun a b => a.2 < b.2) → (sortB (ltT lt) l).Pairwise (Tag lt)
  | [], _ => List.Pairwise.nil
  | x :: l, h => by
    rw [List.pairwise_cons] at h
    exact insB_tag w (fun y hy => h.1 y (sortB_mem.1 hy)) (sortB_up (weak_ltT w)) (sortB_tag w h.2)
def tagged (f : Nat → α) (n : Nat) : List (α × Nat) := (List.range n).map fun i => (f i, i)
/-- what is sorted stably is sortB's answer -/
theorem stable_sortB {lt : α → α → Bool} (w : Weak lt) {f g : Nat → α} {n : Nat} (h : Stable lt f g n) (d : α) : ∀ i, i < n → g i = (sortB lt ((List.range n).map f)).getD i d := by
  have hlen : (sortB (ltT lt) (tagged f n)).length = n := by rw [sortB_len]; simp [tagged]
  have ht : (tagged f n).Pairwise (fun a b => a.2 < b.2) := by
    unfold tagged
    rw [List.pairwise_map]
    exact List.pairwise_lt_range
  have hs := sortB_tag w ht
  have key : Stable lt f (fun i => (sortB lt ((List.range n).map f)).getD i d) n := by
    refine ⟨fun i => (sortB (ltT lt) (tagged f n)).getD i (d, 0), fun i hi => ?_, fun i j _ hij hj => ?_, fun x => ?_⟩
    · have e : (List.range n).map f = (tagged f n).map Prod.fst := by unfold tagged; rw [List.map_map]; rfl
      rw [e, ← sortB_fst]
      simp [hlen, hi]
    · rw [List.pairwise_iff_getElem] at hs
      have := hs i j (by omega) (by omega) hij
      simpa [hlen, hj, show i < n by omega] using this
    · constructor
      · rintro ⟨i, _, hi, rfl⟩
        have : (sortB (ltT lt) (tagged f n)).getD i (d, 0) ∈ sortB (ltT lt) (tagged f n) := by
          rw [List.getD_eq_getElem?_getD, List.getElem?_eq_getElem (by omega)]
          exact List.getElem_mem _
        have h2 := sortB_mem.1 this
        unfold tagged at h2
        obtain ⟨k, hk, e⟩ := List.mem_map.1 h2
        exact ⟨k, List.mem_range.1 hk, e.symm⟩
      · rintro ⟨k, hk, rfl⟩
        have h2 : (f k, k) ∈ sortB (ltT lt) (tagged f n) := sortB_mem.2 (List.mem_map.2 ⟨k, List.mem_range.2 hk, rfl⟩)
        obtain ⟨i, hi, e⟩ := List.mem_iff_getElem.1 h2
        exact ⟨i, Nat.zero_le _, by omega, by simp [hi, e]⟩
  exact Stable.same w h key
/-- sorted by a coarser thing too: what is below a cut comes first -/
theorem up_cut {lt : α → α → Bool} (p : α → Bool) : ∀ {l : List α}, (l.Pairwise fun a b => p b = true → p a = true) → l = l.filter p ++ l.filter fun x => !p x
  | [], _ => rfl
  | x :: l, h => by
    rw [List.pairwise_cons] at h
    by_cases g : p x = true
    · rw [List.filter_cons_of_pos g, List.filter_cons_of_neg (by simp [g]), List.cons_append, ← up_cut (lt := lt) p h.2]
    · have h0 : ∀ y ∈ l, p y = false := fun y hy => by
        cases e : p y with
        | false => rfl
        | true => exact absurd (h.1 y hy e) g
      have e1 : l.filter p = [] := List.filter_eq_nil_iff.2 fun y hy => by rw [h0 y hy]; decide
      have e2 : (l.filter fun x => !p x) = l := List.filter_eq_self.2 fun y hy => by rw [h0 y hy]; rfl
      rw [List.filter_cons_of_neg g, List.filter_cons_of_pos (by simpa using g), e1, e2, List.nil_append]
end Go.Proofs.Ytjbljplgkbnpmaa.Stab
namespace Go.Proofs.Ytjbljplgkbnpmaa
open Go.RowKit LabPlain RecPlain Stab
set_option linter.unusedVariables false

theorem list_says {l : List RowV} {n : Nat} (hl : l.length = n) : (List.range n).map (fun i => (atR l i).says) = l.map RowV.says := by
  apply List.ext_getElem
  · simp [hl]
  · intro i h1 h2
    simp [atR] at h1 h2 ⊢
    rw [List.getElem?_eq_getElem (by omega)]; rfl
/-- a stable sort of rows, as what they say -/
theorem sorted_says {l l1 rs : List RowV} {n : Nat} (h1 : ∀ j, j < n → (atL l1 j).says = (atR l j).says) (hs : Stable ltR (atL l1) (atL rs) n) (hl : l.length = n) (hr : rs.length = n) : rs.map RowV.says = sortB ltS (l.map RowV.says) := by
  have s1 := stable_says hs h1
  have s2 := stable_sortB weak_ltS s1 (rowOf (0, 0, [], ByteArray.empty, 0, false, 0, 0, 0)).says
  rw [list_says hl] at s2
  apply List.ext_getElem
  · rw [List.length_map, sortB_len, List.length_map, hl, hr]
  · intro i h2 h3
    rw [List.length_map] at h2
    have h4 := s2 i (by omega)
    rw [List.getD_eq_getElem?_getD, List.getElem?_eq_getElem h3] at h4
    rw [List.getElem_map]
    have h5 : atL rs i = rs[i] := by simp [atL, h2]
    rw [← h5]; exact h4
theorem sameRs_says {p q : List RowV} (h : p.map RowV.says = q.map RowV.says) : sameRs p q = true := by
  have hl : p.length = q.length := by have := congrArg List.length h; simpa using this
  unfold sameRs
  rw [decide_eq_true hl, sameTo_yes (fun j hj => ?_)]
  · rfl
  · have h1 : (p.map RowV.says)[j]? = (q.map RowV.says)[j]? := by rw [h]
    simp only [List.getElem?_map] at h1
    rw [List.getElem?_eq_getElem hj, List.getElem?_eq_getElem (by omega)] at h1
    simp only [Option.map_some, Option.some.injEq] at h1
    have e1 : p.getD j row0 = p[j] := by simp [hj]
    have e2 : q.getD j row0 = q[j]'(by omega) := by simp [show j < q.length by omega]
    rw [e1, e2]; exact h1
end Go.Proofs.Ytjbljplgkbnpmaa
end SecSortPB2
