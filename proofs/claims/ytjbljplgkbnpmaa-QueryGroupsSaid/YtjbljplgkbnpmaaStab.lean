/- Rows put in order, equals as they stood: exchanges, turns of stretches, orders; nothing of the machine. (Plain; for a contract of slices.SortStableFunc.) -/
import Derived.Test.YtjbljplgkbnpmaaKit
namespace Go.Proofs.Ytjbljplgkbnpmaa.Stab
set_option linter.unusedVariables false

variable {α : Type}

/-- two elements exchanged -/
def swp (f : Nat → α) (i j : Nat) : Nat → α := fun k => if k = i then f j else if k = j then f i else f k
/-- n elements from a and from b exchanged -/
def swr (f : Nat → α) (a b n : Nat) : Nat → α := fun k => if a ≤ k ∧ k < a + n then f (b + (k - a)) else if b ≤ k ∧ k < b + n then f (a + (k - b)) else f k
/-- from a to b: what stands from m on comes first -/
def rot (f : Nat → α) (a m b : Nat) : Nat → α := fun k => if a ≤ k ∧ k < b then (if k < a + (b - m) then f (k + (m - a)) else f (k - (b - m))) else f k

theorem at_eq (f : Nat → α) {i j : Nat} (h : i = j) : f i = f j := by rw [h]

theorem swr_zero (f : Nat → α) (a b : Nat) : swr f a b 0 = f := by
  funext k; unfold swr; repeat' split
  all_goals first | rfl | omega
theorem swr_step (f : Nat → α) (a b n : Nat) (h : a + n < b) : swp (swr f a b n) (a + n) (b + n) = swr f a b (n + 1) := by
  funext k; unfold swp swr; repeat' split
  all_goals first | exact at_eq f (by omega) | omega
theorem rot_eq (f : Nat → α) (m i : Nat) (h : i ≤ m) : swr f (m - i) m i = rot f (m - i) m (m + i) := by
  funext k; unfold swr rot; repeat' split
  all_goals first | exact at_eq f (by omega) | omega
theorem rot_gt (f : Nat → α) (m i j : Nat) (h : j < i) (hi : i ≤ m) : rot (swr f (m - i) m j) (m - (i - j)) m (m + j) = rot f (m - i) m (m + j) := by
  funext k; unfold rot swr; repeat' split
  all_goals first | exact at_eq f (by omega) | omega
theorem rot_lt (f : Nat → α) (m i j : Nat) (h : i < j) (hi : i ≤ m) : rot (swr f (m - i) (m + j - i) i) (m - i) m (m + (j - i)) = rot f (m - i) m (m + j) := by
  funext k; unfold rot swr; repeat' split
  all_goals first | exact at_eq f (by omega) | omega
theorem rot_none (f : Nat → α) (a b : Nat) : rot f a b b = f := by
  funext k; unfold rot; repeat' split
  all_goals first | exact at_eq f (by omega) | omega
theorem rot_none' (f : Nat → α) (a b : Nat) (h : a ≤ b) : rot f a a b = f := by
  funext k; unfold rot; repeat' split
  all_goals first | exact at_eq f (by omega) | omega
/-- one element goes one place to the left -/
theorem rot_left (f : Nat → α) (j m : Nat) (h : j + 1 ≤ m) : swp (rot f (j + 1) m (m + 1)) (j + 1) j = rot f j m (m + 1) := by
  funext k; unfold swp rot; repeat' split
  all_goals first | exact at_eq f (by omega) | omega
/-- one element goes one place to the right -/
theorem rot_right (f : Nat → α) (a k : Nat) (h : a ≤ k) : swp (rot f a (a + 1) (k + 1)) k (k + 1) = rot f a (a + 1) (k + 2) := by
  funext x; unfold swp rot; repeat' split
  all_goals first | exact at_eq f (by omega) | omega

/-- what stands from a to b -/
def Mem (f : Nat → α) (a b : Nat) (x : α) : Prop := ∃ i, a ≤ i ∧ i < b ∧ f i = x
theorem mem_swp (f : Nat → α) (i j a b : Nat) (hi : a ≤ i ∧ i < b) (hj : a ≤ j ∧ j < b) (x : α) : Mem (swp f i j) a b x ↔ Mem f a b x := by
  constructor
  · rintro ⟨k, h1, h2, rfl⟩
    unfold swp; repeat' split
    · exact ⟨j, hj.1, hj.2, rfl⟩
    · exact ⟨i, hi.1, hi.2, rfl⟩
    · exact ⟨k, h1, h2, rfl⟩
  · rintro ⟨k, h1, h2, rfl⟩
    by_cases hk : k = i
    · subst hk
      refine ⟨j, hj.1, hj.2, ?_⟩
      unfold swp; repeat' split
      · exact at_eq f (by omega)
      · rfl
      · omega
    · by_cases hk2 : k = j
      · subst hk2
        exact ⟨i, hi.1, hi.2, by unfold swp; simp⟩
      · exact ⟨k, h1, h2, by unfold swp; simp [hk, hk2]⟩
theorem mem_rot (f : Nat → α) (a m b : Nat) (h1 : a ≤ m) (h2 : m ≤ b) (x : α) : Mem (rot f a m b) a b x ↔ Mem f a b x := by
  constructor
  · rintro ⟨k, hk1, hk2, rfl⟩
    unfold rot; rw [if_pos ⟨hk1, hk2⟩]
    split
    · exact ⟨k + (m - a), by omega, by omega, rfl⟩
    · exact ⟨k - (b - m), by omega, by omega, rfl⟩
  · rintro ⟨k, hk1, hk2, rfl⟩
    by_cases hkm : k < m
    · refine ⟨k + (b - m), by omega, by omega, ?_⟩
      unfold rot; rw [if_pos (by omega), if_neg (by omega)]; exact at_eq f (by omega)
    · refine ⟨k - (m - a), by omega, by omega, ?_⟩
      unfold rot; rw [if_pos (by omega), if_pos (by omega)]; exact at_eq f (by omega)
theorem mem_cut (f : Nat → α) (a m b : Nat) (h1 : a ≤ m) (h2 : m ≤ b) (x : α) : Mem f a b x ↔ Mem f a m x ∨ Mem f m b x := by
  constructor
  · rintro ⟨k, hk1, hk2, rfl⟩
    by_cases h : k < m
    · exact .inl ⟨k, hk1, h, rfl⟩
    · exact .inr ⟨k, by omega, hk2, rfl⟩
  · rintro (⟨k, hk1, hk2, rfl⟩ | ⟨k, hk1, hk2, rfl⟩)
    · exact ⟨k, hk1, by omega, rfl⟩
    · exact ⟨k, by omega, hk2, rfl⟩
theorem mem_congr {f g : Nat → α} {a b : Nat} (h : ∀ i, a ≤ i → i < b → g i = f i) (x : α) : Mem g a b x ↔ Mem f a b x :=
  ⟨fun ⟨k, h1, h2, e⟩ => ⟨k, h1, h2, (h k h1 h2).symm.trans e⟩, fun ⟨k, h1, h2, e⟩ => ⟨k, h1, h2, (h k h1 h2).trans e⟩⟩

/-- strictly in order from a to b -/
def Srt (R : α → α → Prop) (f : Nat → α) (a b : Nat) : Prop := ∀ i j, a ≤ i → i < j → j < b → R (f i) (f j)
theorem Srt.congr {R : α → α → Prop} {f g : Nat → α} {a b : Nat} (h : Srt R f a b) (e : ∀ i, a ≤ i → i < b → g i = f i) : Srt R g a b := fun i j hi hij hj => by
  rw [e i hi (by omega), e j (by omega) hj]; exact h i j hi hij hj
theorem Srt.sub {R : α → α → Prop} {f : Nat → α} {a b a' b' : Nat} (h : Srt R f a b) (h1 : a ≤ a') (h2 : b' ≤ b) : Srt R f a' b' := fun i j hi hij hj => h i j (by omega) hij (by omega)
/-- two halves in order, each thing of the first below each of the second -/
theorem Srt.join {R : α → α → Prop} {f : Nat → α} {a m b : Nat} (h1 : Srt R f a m) (h2 : Srt R f m b) (h : ∀ x y, Mem f a m x → Mem f m b y → R x y) : Srt R f a b := fun i j hi hij hj => by
  by_cases hjm : j < m
  · exact h1 i j hi hij hjm
  · by_cases him : i < m
    · exact h _ _ ⟨i, hi, him, rfl⟩ ⟨j, by omega, hj, rfl⟩
    · exact h2 i j (by omega) hij hj
/-- in order, and of the same things: the same -/
theorem Srt.same {R : α → α → Prop} (irr : ∀ x, ¬ R x x) (tr : ∀ x y z, R x y → R y z → R x z) {f g : Nat → α} {a b : Nat} (hf : Srt R f a b) (hg : Srt R g a b) (hm : ∀ x, Mem f a b x ↔ Mem g a b x) : ∀ n i, i < n → a ≤ i → i < b → f i = g i := by
  intro n
  induction n with
  | zero => intro i h; omega
  | succ n ih =>
    intro i hin hai hib
    obtain ⟨k, hk1, hk2, hk⟩ := (hm (f i)).1 ⟨i, hai, hib, rfl⟩
    obtain ⟨l, hl1, hl2, hl⟩ := (hm (g i)).2 ⟨i, hai, hib, rfl⟩
    rcases Nat.lt_trichotomy k i with h | h | h
    · have := ih k (by omega) hk1 hk2
      have r : R (f k) (f i) := hf k i hk1 h hib
      rw [this, hk] at r
      exact absurd r (irr _)
    · rw [← hk, h]
    · have r1 : R (g i) (f i) := by rw [← hk]; exact hg i k hai h hk2
      rcases Nat.lt_trichotomy l i with h' | h' | h'
      · have := ih l (by omega) hl1 hl2
        have r2 : R (g l) (g i) := hg l i hl1 h' hib
        rw [← this, hl] at r2
        exact absurd r2 (irr _)
      · rw [← hl, h']
      · have r2 : R (f i) (g i) := by rw [← hl]; exact hf i l hai h' hl2
        exact absurd (tr _ _ _ r1 r2) (irr _)

/-- one thing put into its place among those in order: m goes to j -/
theorem Srt.insert {R : α → α → Prop} {f : Nat → α} {a j m : Nat} (h : Srt R f a m) (haj : a ≤ j) (hjm : j ≤ m) (hlo : ∀ i, a ≤ i → i < j → R (f i) (f m)) (hhi : ∀ i, j ≤ i → i < m → R (f m) (f i)) : Srt R (rot f j m (m + 1)) a (m + 1) := by
  intro x y hx hxy hy
  unfold rot
  repeat' split
  all_goals first
    | omega
    | exact h _ _ (by omega) (by omega) (by omega)
    | (rw [show x + (m - j) = m from by omega]; exact hhi _ (by omega) (by omega))
    | (rw [show y + (m - j) = m from by omega]; exact hlo _ (by omega) (by omega))
/-- likewise to the right: a goes behind all below k -/
theorem Srt.insertR {R : α → α → Prop} {f : Nat → α} {a k b : Nat} (h : Srt R f (a + 1) b) (hak : a + 1 ≤ k) (hkb : k ≤ b) (hlo : ∀ i, a + 1 ≤ i → i < k → R (f i) (f a)) (hhi : ∀ i, k ≤ i → i < b → R (f a) (f i)) : Srt R (rot f a (a + 1) k) a b := by
  intro x y hx hxy hy
  unfold rot
  repeat' split
  all_goals first
    | omega
    | exact h _ _ (by omega) (by omega) (by omega)
    | (rw [show x - (k - (a + 1)) = a from by omega]; exact hhi _ (by omega) (by omega))
    | (rw [show y - (k - (a + 1)) = a from by omega]; exact hlo _ (by omega) (by omega))
/-- two rows in order, cut so that the halves can be put in order each by itself: s of the first, and all below e of the second go first -/
theorem Srt.cut {R : α → α → Prop} (tr : ∀ x y z, R x y → R y z → R x z) {f : Nat → α} {a m b s e : Nat} (h1 : Srt R f a m) (h2 : Srt R f m b) (has : a ≤ s) (hsm : s ≤ m) (hme : m ≤ e) (heb : e ≤ b)
    (hlo : a < s → e < b → R (f (s - 1)) (f e)) (hhi : s < m → m < e → R (f (e - 1)) (f s)) :
    Srt R (rot f s m e) a s ∧ Srt R (rot f s m e) s (s + (e - m)) ∧ Srt R (rot f s m e) (s + (e - m)) e ∧ Srt R (rot f s m e) e b ∧
    ∀ x y, (Mem (rot f s m e) a (s + (e - m)) x) → Mem (rot f s m e) (s + (e - m)) b y → R x y := by
  have lo : ∀ i j, a ≤ i → i < s → e ≤ j → j < b → R (f i) (f j) := by
    intro i j hi his hj hjb
    have h := hlo (by omega) (by omega)
    have l : ∀ y, R (f (s - 1)) y → R (f i) y := fun y hy => by
      by_cases hc : i = s - 1
      · rw [hc]; exact hy
      · exact tr _ _ _ (h1 i (s - 1) hi (by omega) (by omega)) hy
    by_cases hc : j = e
    · rw [hc]; exact l _ h
    · exact tr _ _ _ (l _ h) (h2 e j (by omega) (by omega) hjb)
  have hi : ∀ i j, m ≤ i → i < e → s ≤ j → j < m → R (f i) (f j) := by
    intro i j hi hie hj hjm
    have h := hhi (by omega) (by omega)
    have l : ∀ y, R (f (e - 1)) y → R (f i) y := fun y hy => by
      by_cases hc : i = e - 1
      · rw [hc]; exact hy
      · exact tr _ _ _ (h2 i (e - 1) hi (by omega) (by omega)) hy
    by_cases hc : j = s
    · rw [hc]; exact l _ h
    · exact tr _ _ _ (l _ h) (h1 s j (by omega) (by omega) hjm)
  have below : ∀ i, i < s → rot f s m e i = f i := fun i h => by unfold rot; rw [if_neg (by omega)]
  have above : ∀ i, e ≤ i → rot f s m e i = f i := fun i h => by unfold rot; rw [if_neg (by omega)]
  have one : ∀ i, s ≤ i → i < s + (e - m) → rot f s m e i = f (i + (m - s)) := fun i h h' => by unfold rot; rw [if_pos (by omega), if_pos h']
  have two : ∀ i, s + (e - m) ≤ i → i < e → rot f s m e i = f (i - (e - m)) := fun i h h' => by unfold rot; rw [if_pos (by omega), if_neg (by omega)]
  refine ⟨?_, ?_, ?_, ?_, ?_⟩
  · exact (h1.sub (Nat.le_refl _) hsm).congr (fun i _ h => below i h)
  · intro i j hi hij hj
    rw [one i hi (by omega), one j (by omega) hj]; exact h2 _ _ (by omega) (by omega) (by omega)
  · intro i j hi hij hj
    rw [two i hi (by omega), two j (by omega) hj]; exact h1 _ _ (by omega) (by omega) (by omega)
  · exact (h2.sub hme (Nat.le_refl _)).congr (fun i h _ => above i h)
  · rintro x y ⟨i, hi1, hi2, rfl⟩ ⟨j, hj1, hj2, rfl⟩
    by_cases his : i < s
    · rw [below i his]
      by_cases hje : j < e
      · rw [two j hj1 hje]; exact h1 _ _ hi1 (by omega) (by omega)
      · rw [above j (by omega)]; exact lo _ _ hi1 his (by omega) hj2
    · rw [one i (by omega) hi2]
      by_cases hje : j < e
      · rw [two j hj1 hje]; exact hi _ _ (by omega) (by omega) (by omega) (by omega)
      · rw [above j (by omega)]; exact h2 _ _ (by omega) (by omega) hj2

/-- an order in which some may stand beside each other -/
structure Weak (lt : α → α → Bool) : Prop where
  irr : ∀ x, lt x x = false
  tr : ∀ x y z, lt x y = true → lt y z = true → lt x z = true
  co : ∀ x y z, lt x y = false → lt y z = false → lt x z = false
/-- and of those beside each other the elder first -/
def Tag (lt : α → α → Bool) (x y : α × Nat) : Prop := lt x.1 y.1 = true ∨ (lt y.1 x.1 = false ∧ x.2 < y.2)
theorem Weak.asym {lt : α → α → Bool} (w : Weak lt) {x y : α} (h : lt x y = true) : lt y x = false := by
  cases h' : lt y x with
  | false => rfl
  | true => have := w.tr _ _ _ h h'; rw [w.irr] at this; cases this
theorem Weak.tag_irr {lt : α → α → Bool} (w : Weak lt) (x : α × Nat) : ¬ Tag lt x x := by
  rintro (h | ⟨_, h⟩)
  · rw [w.irr] at h; cases h
  · omega
theorem Weak.tag_tr {lt : α → α → Bool} (w : Weak lt) (x y z : α × Nat) (h1 : Tag lt x y) (h2 : Tag lt y z) : Tag lt x z := by
  rcases h1 with h1 | ⟨h1, h1'⟩ <;> rcases h2 with h2 | ⟨h2, h2'⟩
  · exact .inl (w.tr _ _ _ h1 h2)
  · left
    cases h : lt x.1 z.1 with
    | true => rfl
    | false => have := w.co _ _ _ h h2; rw [h1] at this; cases this
  · left
    cases h : lt x.1 z.1 with
    | true => rfl
    | false => have := w.co _ _ _ h1 h; rw [h2] at this; cases this
  · exact .inr ⟨w.co _ _ _ h2 h1, by omega⟩
/-- a younger one stands ahead just if it is less; else the elder does -/
theorem tag_young {lt : α → α → Bool} (w : Weak lt) {x y : α × Nat} (h : x.2 < y.2) : (lt y.1 x.1 = true → Tag lt y x) ∧ (lt y.1 x.1 = false → Tag lt x y) :=
  ⟨fun h => .inl h, fun h' => .inr ⟨h', h⟩⟩
/-- l put in order, equals as they stood: from 0 to n -/
def Stable (lt : α → α → Bool) (f g : Nat → α) (n : Nat) : Prop := ∃ t : Nat → α × Nat, (∀ i, i < n → (t i).1 = g i) ∧ Srt (Tag lt) t 0 n ∧ ∀ x, Mem t 0 n x ↔ ∃ i, i < n ∧ x = (f i, i)
theorem Stable.same {lt : α → α → Bool} (w : Weak lt) {f g h : Nat → α} {n : Nat} (h1 : Stable lt f g n) (h2 : Stable lt f h n) : ∀ i, i < n → g i = h i := by
  obtain ⟨t, a1, b1, c1⟩ := h1
  obtain ⟨u, a2, b2, c2⟩ := h2
  intro i hi
  rw [← a1 i hi, ← a2 i hi, Srt.same w.tag_irr w.tag_tr b1 b2 (fun x => (c1 x).trans (c2 x).symm) (i + 1) i (by omega) (by omega) hi]
end Go.Proofs.Ytjbljplgkbnpmaa.Stab
