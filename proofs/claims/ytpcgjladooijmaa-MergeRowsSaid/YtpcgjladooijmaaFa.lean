/- What lives of the laws on merging needs, in a namespace of its own. Put together by catf.py. -/
import Derived.Test.YtpcgjladooijmaaRows
import Derived.WalkKit
import Derived.Lib.Hide
import Derived.Laws.Strings
import Derived.Laws.AppendOwnNone
import Derived.WalkSpells
import Derived.WalkSmall
import Derived.Deep.QuietTactic
import Derived.BigQuiet
import Derived.Deep.RegionHeld3
import Derived.Deep.Onto
import Derived.Laws.CopyRow
import Derived.Laws.Cover1
import Derived.Maps.AppendAt
import Derived.Below
import Derived.Deep.Slices
import Derived.Deep.Fields
import Derived.SizedLaws
import Derived.OpenShut
import Derived.Test.YtpcgjladooijmaaLabPlain
import Derived.BigRegion
import Derived.Deep.MidRow
/- What the texts of the seats without []uint8 import: the library's words, and what a call owns, kept (out of XOwn). -/
namespace Go.Proofs.Ytpcgjladooijmaa.E
open Go.RowKit
set_option linter.unusedVariables false

theorem own_below {w w' : World} {base : Nat} {e : TypeId} {size : Nat} {v : Value} {n : Nat} {xs : List Value} (h : w.ownsRow base e size v n xs) (hb : Below w.heap.size w w') : w'.ownsRow base e size v n xs :=
  h.kept (row := none) ⟨hb.os, hb.tape, hb.output, hb.size, fun k hk _ => hb.block k hk⟩ (by cases hv : v.ownBlock <;> simp)
/-- what a call owns of one type, and of another: not in one block -/
theorem own_ne2 {w : World} {base base' : Nat} {e e' : TypeId} {size size' : Nat} {v v' : Value} {n n' : Nat} {xs xs' : List Value} (h : w.ownsRow base e size v n xs) (h' : w.ownsRow base' e' size' v' n' xs') (hne : e ≠ e') : v.ownBlock = none ∨ v.ownBlock ≠ v'.ownBlock := by
  rcases h.2 with ⟨rfl, _⟩ | ⟨g, cap, cur, rfl, _, hg, _⟩
  · exact .inl rfl
  · rcases h'.2 with ⟨rfl, _⟩ | ⟨g', cap', cur', rfl, _, hg', _⟩
    · exact .inr (by simp [Value.ownBlock])
    · refine .inr fun e1 => ?_
      simp [Value.ownBlock] at e1
      subst e1
      rw [hg] at hg'
      simp at hg'
      exact hne hg'.2
end Go.Proofs.Ytpcgjladooijmaa.E
/- Rows put in order, equals as they stood: exchanges, turns of stretches, orders; nothing of the machine. (Plain; for a contract of slices.SortStableFunc.) -/
namespace Go.Proofs.Ytpcgjladooijmaa.E.Stab
set_option linter.unusedVariables false

variable {α : Type}

/-- two elements exchanged -/
def swp (f : Nat → α) (i j : Nat) : Nat → α := fun k => if k = i then f j else if k = j then f i else f k
/-- n elements from a and from b exchanged -/
def swr (f : Nat → α) (a b n : Nat) : Nat → α := fun k => if a ≤ k ∧ k < a + n then f (b + (k - a)) else if b ≤ k ∧ k < b + n then f (a + (k - b)) else f k
/-- from a to b: what stands from m on comes first -/
def rot (f : Nat → α) (a m b : Nat) : Nat → α := fun k => if a ≤ k ∧ k < b then (if k < a + (b - m) then f (k + (m - a)) else f (k - (b - m))) else f k

theorem at_eq (f : Nat → α) {i j : Nat} (h : i = j) : f i = f j := by rw [h]

theorem swr_zero (f : Nat → α) (a b : Nat) : swr f a b 0 = f := by
  funext k; unfold swr; repeat' split
  all_goals first | rfl | omega
theorem swr_step (f : Nat → α) (a b n : Nat) (h : a + n < b) : swp (swr f a b n) (a + n) (b + n) = swr f a b (n + 1) := by
  funext k; unfold swp swr; repeat' split
  all_goals first | exact at_eq f (by omega) | omega
theorem rot_eq (f : Nat → α) (m i : Nat) (h : i ≤ m) : swr f (m - i) m i = rot f (m - i) m (m + i) := by
  funext k; unfold swr rot; repeat' split
  all_goals first | exact at_eq f (by omega) | omega
theorem rot_gt (f : Nat → α) (m i j : Nat) (h : j < i) (hi : i ≤ m) : rot (swr f (m - i) m j) (m - (i - j)) m (m + j) = rot f (m - i) m (m + j) := by
  funext k; unfold rot swr; repeat' split
  all_goals first | exact at_eq f (by omega) | omega
theorem rot_lt (f : Nat → α) (m i j : Nat) (h : i < j) (hi : i ≤ m) : rot (swr f (m - i) (m + j - i) i) (m - i) m (m + (j - i)) = rot f (m - i) m (m + j) := by
  funext k; unfold rot swr; repeat' split
  all_goals first | exact at_eq f (by omega) | omega
theorem rot_none (f : Nat → α) (a b : Nat) : rot f a b b = f := by
  funext k; unfold rot; repeat' split
  all_goals first | exact at_eq f (by omega) | omega
theorem rot_none' (f : Nat → α) (a b : Nat) (h : a ≤ b) : rot f a a b = f := by
  funext k; unfold rot; repeat' split
  all_goals first | exact at_eq f (by omega) | omega
/-- one element goes one place to the left -/
theorem rot_left (f : Nat → α) (j m : Nat) (h : j + 1 ≤ m) : swp (rot f (j + 1) m (m + 1)) (j + 1) j = rot f j m (m + 1) := by
  funext k; unfold swp rot; repeat' split
  all_goals first | exact at_eq f (by omega) | omega
/-- one element goes one place to the right -/
theorem rot_right (f : Nat → α) (a k : Nat) (h : a ≤ k) : swp (rot f a (a + 1) (k + 1)) k (k + 1) = rot f a (a + 1) (k + 2) := by
  funext x; unfold swp rot; repeat' split
  all_goals first | exact at_eq f (by omega) | omega

/-- what stands from a to b -/
def Mem (f : Nat → α) (a b : Nat) (x : α) : Prop := ∃ i, a ≤ i ∧ i < b ∧ f i = x
theorem mem_swp (f : Nat → α) (i j a b : Nat) (hi : a ≤ i ∧ i < b) (hj : a ≤ j ∧ j < b) (x : α) : Mem (swp f i j) a b x ↔ Mem f a b x := by
  constructor
  · rintro ⟨k, h1, h2, rfl⟩
    unfold swp; repeat' split
    · exact ⟨j, hj.1, hj.2, rfl⟩
    · exact ⟨i, hi.1, hi.2, rfl⟩
    · exact ⟨k, h1, h2, rfl⟩
  · rintro ⟨k, h1, h2, rfl⟩
    by_cases hk : k = i
    · subst hk
      refine ⟨j, hj.1, hj.2, ?_⟩
      unfold swp; repeat' split
      · exact at_eq f (by omega)
      · rfl
      · omega
    · by_cases hk2 : k = j
      · subst hk2
        exact ⟨i, hi.1, hi.2, by unfold swp; simp⟩
      · exact ⟨k, h1, h2, by unfold swp; simp [hk, hk2]⟩
theorem mem_rot (f : Nat → α) (a m b : Nat) (h1 : a ≤ m) (h2 : m ≤ b) (x : α) : Mem (rot f a m b) a b x ↔ Mem f a b x := by
  constructor
  · rintro ⟨k, hk1, hk2, rfl⟩
    unfold rot; rw [if_pos ⟨hk1, hk2⟩]
    split
    · exact ⟨k + (m - a), by omega, by omega, rfl⟩
    · exact ⟨k - (b - m), by omega, by omega, rfl⟩
  · rintro ⟨k, hk1, hk2, rfl⟩
    by_cases hkm : k < m
    · refine ⟨k + (b - m), by omega, by omega, ?_⟩
      unfold rot; rw [if_pos (by omega), if_neg (by omega)]; exact at_eq f (by omega)
    · refine ⟨k - (m - a), by omega, by omega, ?_⟩
      unfold rot; rw [if_pos (by omega), if_pos (by omega)]; exact at_eq f (by omega)
theorem mem_cut (f : Nat → α) (a m b : Nat) (h1 : a ≤ m) (h2 : m ≤ b) (x : α) : Mem f a b x ↔ Mem f a m x ∨ Mem f m b x := by
  constructor
  · rintro ⟨k, hk1, hk2, rfl⟩
    by_cases h : k < m
    · exact .inl ⟨k, hk1, h, rfl⟩
    · exact .inr ⟨k, by omega, hk2, rfl⟩
  · rintro (⟨k, hk1, hk2, rfl⟩ | ⟨k, hk1, hk2, rfl⟩)
    · exact ⟨k, hk1, by omega, rfl⟩
    · exact ⟨k, by omega, hk2, rfl⟩
theorem mem_congr {f g : Nat → α} {a b : Nat} (h : ∀ i, a ≤ i → i < b → g i = f i) (x : α) : Mem g a b x ↔ Mem f a b x :=
  ⟨fun ⟨k, h1, h2, e⟩ => ⟨k, h1, h2, (h k h1 h2).symm.trans e⟩, fun ⟨k, h1, h2, e⟩ => ⟨k, h1, h2, (h k h1 h2).trans e⟩⟩

/-- strictly in order from a to b -/
def Srt (R : α → α → Prop) (f : Nat → α) (a b : Nat) : Prop := ∀ i j, a ≤ i → i < j → j < b → R (f i) (f j)
theorem Srt.congr {R : α → α → Prop} {f g : Nat → α} {a b : Nat} (h : Srt R f a b) (e : ∀ i, a ≤ i → i < b → g i = f i) : Srt R g a b := fun i j hi hij hj => by
  rw [e i hi (by omega), e j (by omega) hj]; exact h i j hi hij hj
theorem Srt.sub {R : α → α → Prop} {f : Nat → α} {a b a' b' : Nat} (h : Srt R f a b) (h1 : a ≤ a') (h2 : b' ≤ b) : Srt R f a' b' := fun i j hi hij hj => h i j (by omega) hij (by omega)
/-- two halves in order, each thing of the first below each of the second -/
theorem Srt.join {R : α → α → Prop} {f : Nat → α} {a m b : Nat} (h1 : Srt R f a m) (h2 : Srt R f m b) (h : ∀ x y, Mem f a m x → Mem f m b y → R x y) : Srt R f a b := fun i j hi hij hj => by
  by_cases hjm : j < m
  · exact h1 i j hi hij hjm
  · by_cases him : i < m
    · exact h _ _ ⟨i, hi, him, rfl⟩ ⟨j, by omega, hj, rfl⟩
    · exact h2 i j (by omega) hij hj
/-- in order, and of the same things: the same -/
theorem Srt.same {R : α → α → Prop} (irr : ∀ x, ¬ R x x) (tr : ∀ x y z, R x y → R y z → R x z) {f g : Nat → α} {a b : Nat} (hf : Srt R f a b) (hg : Srt R g a b) (hm : ∀ x, Mem f a b x ↔ Mem g a b x) : ∀ n i, i < n → a ≤ i → i < b → f i = g i := by
  intro n
  induction n with
  | zero => intro i h; omega
  | succ n ih =>
    intro i hin hai hib
    obtain ⟨k, hk1, hk2, hk⟩ := (hm (f i)).1 ⟨i, hai, hib, rfl⟩
    obtain ⟨l, hl1, hl2, hl⟩ := (hm (g i)).2 ⟨i, hai, hib, rfl⟩
    rcases Nat.lt_trichotomy k i with h | h | h
    · have := ih k (by omega) hk1 hk2
      have r : R (f k) (f i) := hf k i hk1 h hib
      rw [this, hk] at r
      exact absurd r (irr _)
    · rw [← hk, h]
    · have r1 : R (g i) (f i) := by rw [← hk]; exact hg i k hai h hk2
      rcases Nat.lt_trichotomy l i with h' | h' | h'
      · have := ih l (by omega) hl1 hl2
        have r2 : R (g l) (g i) := hg l i hl1 h' hib
        rw [← this, hl] at r2
        exact absurd r2 (irr _)
      · rw [← hl, h']
      · have r2 : R (f i) (g i) := by rw [← hl]; exact hf i l hai h' hl2
        exact absurd (tr _ _ _ r1 r2) (irr _)

/-- one thing put into its place among those in order: m goes to j -/
theorem Srt.insert {R : α → α → Prop} {f : Nat → α} {a j m : Nat} (h : Srt R f a m) (haj : a ≤ j) (hjm : j ≤ m) (hlo : ∀ i, a ≤ i → i < j → R (f i) (f m)) (hhi : ∀ i, j ≤ i → i < m → R (f m) (f i)) : Srt R (rot f j m (m + 1)) a (m + 1) := by
  intro x y hx hxy hy
  unfold rot
  repeat' split
  all_goals first
    | omega
    | exact h _ _ (by omega) (by omega) (by omega)
    | (rw [show x + (m - j) = m from by omega]; exact hhi _ (by omega) (by omega))
    | (rw [show y + (m - j) = m from by omega]; exact hlo _ (by omega) (by omega))
/-- likewise to the right: a goes behind all below k -/
theorem Srt.insertR {R : α → α → Prop} {f : Nat → α} {a k b : Nat} (h : Srt R f (a + 1) b) (hak : a + 1 ≤ k) (hkb : k ≤ b) (hlo : ∀ i, a + 1 ≤ i → i < k → R (f i) (f a)) (hhi : ∀ i, k ≤ i → i < b → R (f a) (f i)) : Srt R (rot f a (a + 1) k) a b := by
  intro x y hx hxy hy
  unfold rot
  repeat' split
  all_goals first
    | omega
    | exact h _ _ (by omega) (by omega) (by omega)
    | (rw [show x - (k - (a + 1)) = a from by omega]; exact hhi _ (by omega) (by omega))
    | (rw [show y - (k - (a + 1)) = a from by omega]; exact hlo _ (by omega) (by omega))
/-- two rows in order, cut so that the halves can be put in order each by itself: s of the first, and all below e of the second go first -/
theorem Srt.cut {R : α → α → Prop} (tr : ∀ x y z, R x y → R y z → R x z) {f : Nat → α} {a m b s e : Nat} (h1 : Srt R f a m) (h2 : Srt R f m b) (has : a ≤ s) (hsm : s ≤ m) (hme : m ≤ e) (heb : e ≤ b)
    (hlo : a < s → e < b → R (f (s - 1)) (f e)) (hhi : s < m → m < e → R (f (e - 1)) (f s)) :
    Srt R (rot f s m e) a s ∧ Srt R (rot f s m e) s (s + (e - m)) ∧ Srt R (rot f s m e) (s + (e - m)) e ∧ Srt R (rot f s m e) e b ∧
    ∀ x y, (Mem (rot f s m e) a (s + (e - m)) x) → Mem (rot f s m e) (s + (e - m)) b y → R x y := by
  have lo : ∀ i j, a ≤ i → i < s → e ≤ j → j < b → R (f i) (f j) := by
    intro i j hi his hj hjb
    have h := hlo (by omega) (by omega)
    have l : ∀ y, R (f (s - 1)) y → R (f i) y := fun y hy => by
      by_cases hc : i = s - 1
      · rw [hc]; exact hy
      · exact tr _ _ _ (h1 i (s - 1) hi (by omega) (by omega)) hy
    by_cases hc : j = e
    · rw [hc]; exact l _ h
    · exact tr _ _ _ (l _ h) (h2 e j (by omega) (by omega) hjb)
  have hi : ∀ i j, m ≤ i → i < e → s ≤ j → j < m → R (f i) (f j) := by
    intro i j hi hie hj hjm
    have h := hhi (by omega) (by omega)
    have l : ∀ y, R (f (e - 1)) y → R (f i) y := fun y hy => by
      by_cases hc : i = e - 1
      · rw [hc]; exact hy
      · exact tr _ _ _ (h2 i (e - 1) hi (by omega) (by omega)) hy
    by_cases hc : j = s
    · rw [hc]; exact l _ h
    · exact tr _ _ _ (l _ h) (h1 s j (by omega) (by omega) hjm)
  have below : ∀ i, i < s → rot f s m e i = f i := fun i h => by unfold rot; rw [if_neg (by omega)]
  have above : ∀ i, e ≤ i → rot f s m e i = f i := fun i h => by unfold rot; rw [if_neg (by omega)]
  have one : ∀ i, s ≤ i → i < s + (e - m) → rot f s m e i = f (i + (m - s)) := fun i h h' => by unfold rot; rw [if_pos (by omega), if_pos h']
  have two : ∀ i, s + (e - m) ≤ i → i < e → rot f s m e i = f (i - (e - m)) := fun i h h' => by unfold rot; rw [if_pos (by omega), if_neg (by omega)]
  refine ⟨?_, ?_, ?_, ?_, ?_⟩
  · exact (h1.sub (Nat.le_refl _) hsm).congr (fun i _ h => below i h)
  · intro i j hi hij hj
    rw [one i hi (by omega), one j (by omega) hj]; exact h2 _ _ (by omega) (by omega) (by omega)
  · intro i j hi hij hj
    rw [two i hi (by omega), two j (by omega) hj]; exact h1 _ _ (by omega) (by omega) (by omega)
  · exact (h2.sub hme (Nat.le_refl _)).congr (fun i h _ => above i h)
  · rintro x y ⟨i, hi1, hi2, rfl⟩ ⟨j, hj1, hj2, rfl⟩
    by_cases his : i < s
    · rw [below i his]
      by_cases hje : j < e
      · rw [two j hj1 hje]; exact h1 _ _ hi1 (by omega) (by omega)
      · rw [above j (by omega)]; exact lo _ _ hi1 his (by omega) hj2
    · rw [one i (by omega) hi2]
      by_cases hje : j < e
      · rw [two j hj1 hje]; exact hi _ _ (by omega) (by omega) (by omega) (by omega)
      · rw [above j (by omega)]; exact h2 _ _ (by omega) (by omega) hj2

/-- an order in which some may stand beside each other -/
structure Weak (lt : α → α → Bool) : Prop where
  irr : ∀ x, lt x x = false
  tr : ∀ x y z, lt x y = true → lt y z = true → lt x z = true
  co : ∀ x y z, lt x y = false → lt y z = false → lt x z = false
/-- and of those beside each other the elder first -/
def Tag (lt : α → α → Bool) (x y : α × Nat) : Prop := lt x.1 y.1 = true ∨ (lt y.1 x.1 = false ∧ x.2 < y.2)
theorem Weak.asym {lt : α → α → Bool} (w : Weak lt) {x y : α} (h : lt x y = true) : lt y x = false := by
  cases h' : lt y x with
  | false => rfl
  | true => have := w.tr _ _ _ h h'; rw [w.irr] at this; cases this
theorem Weak.tag_irr {lt : α → α → Bool} (w : Weak lt) (x : α × Nat) : ¬ Tag lt x x := by
  rintro (h | ⟨_, h⟩)
  · rw [w.irr] at h; cases h
  · omega
theorem Weak.tag_tr {lt : α → α → Bool} (w : Weak lt) (x y z : α × Nat) (h1 : Tag lt x y) (h2 : Tag lt y z) : Tag lt x z := by
  rcases h1 with h1 | ⟨h1, h1'⟩ <;> rcases h2 with h2 | ⟨h2, h2'⟩
  · exact .inl (w.tr _ _ _ h1 h2)
  · left
    cases h : lt x.1 z.1 with
    | true => rfl
    | false => have := w.co _ _ _ h h2; rw [h1] at this; cases this
  · left
    cases h : lt x.1 z.1 with
    | true => rfl
    | false => have := w.co _ _ _ h1 h; rw [h2] at this; cases this
  · exact .inr ⟨w.co _ _ _ h2 h1, by omega⟩
/-- a younger one stands ahead just if it is less; else the elder does -/
theorem tag_young {lt : α → α → Bool} (w : Weak lt) {x y : α × Nat} (h : x.2 < y.2) : (lt y.1 x.1 = true → Tag lt y x) ∧ (lt y.1 x.1 = false → Tag lt x y) :=
  ⟨fun h => .inl h, fun h' => .inr ⟨h', h⟩⟩
/-- l put in order, equals as they stood: from 0 to n -/
def Stable (lt : α → α → Bool) (f g : Nat → α) (n : Nat) : Prop := ∃ t : Nat → α × Nat, (∀ i, i < n → (t i).1 = g i) ∧ Srt (Tag lt) t 0 n ∧ ∀ x, Mem t 0 n x ↔ ∃ i, i < n ∧ x = (f i, i)
theorem Stable.same {lt : α → α → Bool} (w : Weak lt) {f g h : Nat → α} {n : Nat} (h1 : Stable lt f g n) (h2 : Stable lt f h n) : ∀ i, i < n → g i = h i := by
  obtain ⟨t, a1, b1, c1⟩ := h1
  obtain ⟨u, a2, b2, c2⟩ := h2
  intro i hi
  rw [← a1 i hi, ← a2 i hi, Srt.same w.tag_irr w.tag_tr b1 b2 (fun x => (c1 x).trans (c2 x).symm) (i + 1) i (by omega) (by omega) hi]
end Go.Proofs.Ytpcgjladooijmaa.E.Stab
/- Entries of nine cells each; their order. -/
namespace Go.Proofs.Ytpcgjladooijmaa.E
open Go.RowKit LabPlain
set_option linter.unusedVariables false

structure EntV where
  key : ByteArray
  win : Int
  part : ByteArray
  fst : Int
  lst : Int
  rows : Int
  size : Int
  sum : Int
  born : Int
def ent0 : EntV := ⟨ByteArray.empty, 0, ByteArray.empty, 0, 0, 0, 0, 0, 0⟩
def EntV.cells (x : EntV) : List Value := [.string x.key, .int .i64 x.win, .string x.part, .int .i64 x.fst, .int .i64 x.lst, .int .i64 x.rows, .int .i64 x.size, .int .u32 x.sum, .int .i64 x.born]
def cmp3 (x y : Int) : Int := if x < y then -1 else if y < x then 1 else 0
def cmpS (x y : ByteArray) : Int := if ltB x y = true then -1 else if ltB y x = true then 1 else 0
/-- the first that is not nought, of four -/
def or4 (v : Nat → Int) : Int := if v 0 ≠ 0 then v 0 else if v 1 ≠ 0 then v 1 else if v 2 ≠ 0 then v 2 else v 3
def cmpEnt (x y : EntV) : Int := or4 fun k => match k with | 0 => cmp3 x.win y.win | 1 => cmpS x.part y.part | 2 => cmp3 x.born y.born | _ => cmpS x.key y.key
end Go.Proofs.Ytpcgjladooijmaa.E
/- Rows of nine cells exchanged (slices.swapRangeCmpFunc). Written by genswap.py and toent.py. -/
namespace Go.Proofs.Ytpcgjladooijmaa.E
open Go.ChangeShapes Go.WideShapes Go.Deep Go.RowKit Stab
set_option linter.unusedVariables false

/-- n things of nine cells each at the head of block g, which may be written -/
structure Nines (w : World) (g n : Nat) (f : Nat → EntV) : Prop where
  at' : ∀ i, i < n → w.rangeAt g (i * 9) (f i).cells
  free : ∀ i, i < n → w.there g (i * 9) 9

/-- what a call may turn that turns one block alone, and makes new ones -/
structure Turns1 (B : Nat) (w w' : World) : Prop where
  os : w'.os = w.os
  tape : w'.tape = w.tape
  output : w'.output = w.output
  size : w.heap.size ≤ w'.heap.size
  block : ∀ k, k < w.heap.size → k ≠ B → w'.heap[k]? = w.heap[k]?
theorem Turns1.refl (B : Nat) (w : World) : Turns1 B w w := ⟨rfl, rfl, rfl, Nat.le_refl _, fun _ _ _ => rfl⟩
theorem Turns1.trans {B : Nat} {a b c : World} (h : Turns1 B a b) (g : Turns1 B b c) : Turns1 B a c :=
  ⟨g.os.trans h.os, g.tape.trans h.tape, g.output.trans h.output, Nat.le_trans h.size g.size, fun k hk hne => (g.block k (Nat.lt_of_lt_of_le hk h.size) hne).trans (h.block k hk hne)⟩
theorem Turns1.set {B : Nat} {a w : World} (h : Turns1 B a w) (i : Nat) (u : Value) : Turns1 B a (w.setCell ⟨B, i, none⟩ u) :=
  h.trans ⟨rfl, rfl, rfl, by simp [World.setCell], fun k hk hne => Below.heap_setCell _ _ _ _ hne⟩
theorem Turns1.sets {B : Nat} {a : World} : ∀ (vs : List Value) (o : Nat) {w : World}, Turns1 B a w → Turns1 B a (w.setCells B o vs)
  | [], _, _, h => h
  | v :: r, o, _, h => Turns1.sets r (o + 1) (h.set o v)
theorem Turns1.drew {B : Nat} {a w : World} (h : Turns1 B a w) : Turns1 B a w.drew := ⟨h.os, h.tape, h.output, h.size, h.block⟩
theorem Turns1.below {B : Nat} {a w w' : World} (h : Turns1 B a w) (hb : Below w.heap.size w w') : Turns1 B a w' :=
  h.trans ⟨hb.os, hb.tape, hb.output, hb.size, fun k hk _ => hb.block k hk⟩
theorem Turns1.old {B b : Nat} {a w w' : World} (h : Turns1 B w w') (ha : Below b a w) (hb : b ≤ B) (hs : b ≤ w.heap.size) : Below b a w' :=
  ha.trans ⟨h.os, h.tape, h.output, h.size, fun k hk => h.block k (by omega) (by omega)⟩

theorem Nines.drew {w : World} {g n : Nat} {f : Nat → EntV} (h : Nines w g n f) : Nines w.drew g n f :=
  ⟨fun i hi => (World.rangeAt_drew _ _ _ _).2 (h.at' i hi), fun i hi => (World.there_drew _ _ _ _).2 (h.free i hi)⟩
/-- one thing stored -/
theorem Nines.set {w : World} {g n : Nat} {f : Nat → EntV} (h : Nines w g n f) (p : Nat) (hp : p < n) (x : EntV) : Nines (w.setCells g (p * 9) x.cells) g n (fun k => if k = p then x else f k) :=
  ⟨fun i hi => by
    by_cases e : i = p
    · subst e
      simp only [if_pos]
      exact World.rangeAt_setCells_same w g (i * 9) x.cells (h.free i hi)
    · simp only [if_neg e]
      exact World.rangeAt_setCells_apart (h.at' i hi) g (p * 9) x.cells (.inr (by show i * 9 + 9 ≤ p * 9 ∨ p * 9 + 9 ≤ i * 9; omega)),
   fun i hi => World.there_setCells (h.free i hi) g (p * 9) x.cells⟩
theorem Nines.swap {w : World} {g n : Nat} {f : Nat → EntV} (h : Nines w g n f) (p q : Nat) (hp : p < n) (hq : q < n) (x y : EntV) (hx : x = f p) (hy : y = f q) : Nines ((w.setCells g (p * 9) y.cells).setCells g (q * 9) x.cells) g n (swp f p q) := by
  subst hx hy
  have := (h.set p hp (f q)).set q hq (f p)
  have e : (fun k => if k = q then f p else if k = p then f q else f k) = swp f p q := by
    funext k; unfold swp; repeat' split
    all_goals first | rfl | (subst_vars; rfl)
  rw [e] at this
  exact this

set_option maxRecDepth 100000 in
set_option maxHeartbeats 2000000 in
theorem swr_any {w : World} {g n c : Nat} {f : Nat → EntV} {a b m : Nat} {cmp : Value} (h : Nines w g n f) (hn : a + m ≤ b) (hb : b + m ≤ n) (hc : n ≤ c) (hcm : c ≤ 9223372036854775807) :
    Calls Try.prog 97 #[.slice (some ⟨g, 0, none⟩) n c, .int .i64 (a : Int), .int .i64 (b : Int), .int .i64 (m : Int), cmp] w fun e w' => e = .returned undef ∧ Nines w' g n (swr f a b m) ∧ Turns1 g w w' := by
  have H := Lib.hid h
  clear h
  go_enter Try.func97, Try.ntmps97
  go_wp2_with fail
  go_loopw [10] (fun s10 wr => ∃ i : Nat, i ≤ m ∧ s10 = .int .i64 (i : Int) ∧ Hid (Nines wr g n (swr f a b i)) ∧ Hid (Turns1 g w wr)) (fun s10 _ => m - (intOf s10).toNat)
  case atStart => exact ⟨0, by omega, rfl, by rw [swr_zero]; exact H, Lib.hid (Turns1.refl g w)⟩
  case round =>
    obtain ⟨i, hi, rfl, HR, HT⟩ := hrel
    rename World => wr
    by_cases him : i < m
    · have him2 : (i : Int) < (m : Int) := by omega
      obtain ⟨x, hx⟩ : ∃ x, x = swr f a b i (a + i) := ⟨_, rfl⟩
      obtain ⟨y, hy⟩ : ∃ y, y = swr f a b i (b + i) := ⟨_, rfl⟩
      have hX := HR.out.at' (a + i) (by omega)
      have hY := HR.out.at' (b + i) (by omega)
      rw [← hx] at hX
      rw [← hy] at hY
      have tX := HR.out.free (a + i) (by omega)
      have tY := HR.out.free (b + i) (by omega)
      have wa : IntKind.i64.wrap ((a : Int) + (i : Int)) = (a : Int) + (i : Int) := IntWalk.i64_in _ (by omega)
      have wb : IntKind.i64.wrap ((b : Int) + (i : Int)) = (b : Int) + (i : Int) := IntWalk.i64_in _ (by omega)
      have a0 : 0 ≤ (a : Int) + (i : Int) := by omega
      have b0 : 0 ≤ (b : Int) + (i : Int) := by omega
      have al : (a : Int) + (i : Int) < (n : Int) := by omega
      have bl : (b : Int) + (i : Int) < (n : Int) := by omega
      have at0 : ((a : Int) + (i : Int)).toNat = a + i := by omega
      have bt0 : ((b : Int) + (i : Int)).toNat = b + i := by omega
      have cx0 : wr.cell? ⟨g, (a + i) * 9, none⟩ = some (.string x.key) := hX 0 _ rfl
      have zx0 : wr.frozen? ⟨g, (a + i) * 9, none⟩ = false := (tX 0 (by omega)).2
      have cx1 : wr.cell? ⟨g, (a + i) * 9 + 1, none⟩ = some (.int .i64 x.win) := hX 1 _ rfl
      have zx1 : wr.frozen? ⟨g, (a + i) * 9 + 1, none⟩ = false := (tX 1 (by omega)).2
      have cx2 : wr.cell? ⟨g, (a + i) * 9 + 2, none⟩ = some (.string x.part) := hX 2 _ rfl
      have zx2 : wr.frozen? ⟨g, (a + i) * 9 + 2, none⟩ = false := (tX 2 (by omega)).2
      have cx3 : wr.cell? ⟨g, (a + i) * 9 + 3, none⟩ = some (.int .i64 x.fst) := hX 3 _ rfl
      have zx3 : wr.frozen? ⟨g, (a + i) * 9 + 3, none⟩ = false := (tX 3 (by omega)).2
      have cx4 : wr.cell? ⟨g, (a + i) * 9 + 4, none⟩ = some (.int .i64 x.lst) := hX 4 _ rfl
      have zx4 : wr.frozen? ⟨g, (a + i) * 9 + 4, none⟩ = false := (tX 4 (by omega)).2
      have cx5 : wr.cell? ⟨g, (a + i) * 9 + 5, none⟩ = some (.int .i64 x.rows) := hX 5 _ rfl
      have zx5 : wr.frozen? ⟨g, (a + i) * 9 + 5, none⟩ = false := (tX 5 (by omega)).2
      have cx6 : wr.cell? ⟨g, (a + i) * 9 + 6, none⟩ = some (.int .i64 x.size) := hX 6 _ rfl
      have zx6 : wr.frozen? ⟨g, (a + i) * 9 + 6, none⟩ = false := (tX 6 (by omega)).2
      have cx7 : wr.cell? ⟨g, (a + i) * 9 + 7, none⟩ = some (.int .u32 x.sum) := hX 7 _ rfl
      have zx7 : wr.frozen? ⟨g, (a + i) * 9 + 7, none⟩ = false := (tX 7 (by omega)).2
      have cx8 : wr.cell? ⟨g, (a + i) * 9 + 8, none⟩ = some (.int .i64 x.born) := hX 8 _ rfl
      have zx8 : wr.frozen? ⟨g, (a + i) * 9 + 8, none⟩ = false := (tX 8 (by omega)).2
      have cy0 : wr.cell? ⟨g, (b + i) * 9, none⟩ = some (.string y.key) := hY 0 _ rfl
      have zy0 : wr.frozen? ⟨g, (b + i) * 9, none⟩ = false := (tY 0 (by omega)).2
      have cy1 : wr.cell? ⟨g, (b + i) * 9 + 1, none⟩ = some (.int .i64 y.win) := hY 1 _ rfl
      have zy1 : wr.frozen? ⟨g, (b + i) * 9 + 1, none⟩ = false := (tY 1 (by omega)).2
      have cy2 : wr.cell? ⟨g, (b + i) * 9 + 2, none⟩ = some (.string y.part) := hY 2 _ rfl
      have zy2 : wr.frozen? ⟨g, (b + i) * 9 + 2, none⟩ = false := (tY 2 (by omega)).2
      have cy3 : wr.cell? ⟨g, (b + i) * 9 + 3, none⟩ = some (.int .i64 y.fst) := hY 3 _ rfl
      have zy3 : wr.frozen? ⟨g, (b + i) * 9 + 3, none⟩ = false := (tY 3 (by omega)).2
      have cy4 : wr.cell? ⟨g, (b + i) * 9 + 4, none⟩ = some (.int .i64 y.lst) := hY 4 _ rfl
      have zy4 : wr.frozen? ⟨g, (b + i) * 9 + 4, none⟩ = false := (tY 4 (by omega)).2
      have cy5 : wr.cell? ⟨g, (b + i) * 9 + 5, none⟩ = some (.int .i64 y.rows) := hY 5 _ rfl
      have zy5 : wr.frozen? ⟨g, (b + i) * 9 + 5, none⟩ = false := (tY 5 (by omega)).2
      have cy6 : wr.cell? ⟨g, (b + i) * 9 + 6, none⟩ = some (.int .i64 y.size) := hY 6 _ rfl
      have zy6 : wr.frozen? ⟨g, (b + i) * 9 + 6, none⟩ = false := (tY 6 (by omega)).2
      have cy7 : wr.cell? ⟨g, (b + i) * 9 + 7, none⟩ = some (.int .u32 y.sum) := hY 7 _ rfl
      have zy7 : wr.frozen? ⟨g, (b + i) * 9 + 7, none⟩ = false := (tY 7 (by omega)).2
      have cy8 : wr.cell? ⟨g, (b + i) * 9 + 8, none⟩ = some (.int .i64 y.born) := hY 8 _ rfl
      have zy8 : wr.frozen? ⟨g, (b + i) * 9 + 8, none⟩ = false := (tY 8 (by omega)).2
      clear hX hY tX tY
      have HX := Lib.hid hx
      have HY := Lib.hid hy
      clear hx hy
      go_wp2_with fail
      go_region
      have HN := Lib.hid (HR.out.swap (a + i) (b + i) (by omega) (by omega) x y HX.out HY.out).drew
      have HU := Lib.hid (((HT.out.sets y.cells ((a + i) * 9)).sets x.cells ((b + i) * 9)).drew)
      rw [swr_step f a b i (by omega)] at HN
      go_wp2_with fail
      go_roundw
      case rel => exact ⟨i + 1, by omega, by go_num, HN, HU⟩
      case measure => simp [intOf]; omega
    · obtain rfl : i = m := by omega
      go_wp2_with fail
      first | go_end0 | refine bodyPost_ret (results_none rfl _ _ _) rfl ?_
      exact ⟨rfl, HR.out, HT.out⟩
end Go.Proofs.Ytpcgjladooijmaa.E
/- A stretch of rows turned (slices.rotateCmpFunc). -/
namespace Go.Proofs.Ytpcgjladooijmaa.E
open Go.ChangeShapes Go.WideShapes Go.Deep Go.RowKit Stab
set_option linter.unusedVariables false

set_option maxRecDepth 100000 in
set_option maxHeartbeats 2000000 in
theorem rot_any {w : World} {g n c : Nat} {f : Nat → EntV} {a m b : Nat} {cmp : Value} (h : Nines w g n f) (ham : a < m) (hmb : m < b) (hb : b ≤ n) (hc : n ≤ c) (hcm : c ≤ 9223372036854775807) :
    Calls Try.prog 96 #[.slice (some ⟨g, 0, none⟩) n c, .int .i64 (a : Int), .int .i64 (m : Int), .int .i64 (b : Int), cmp] w fun e w' => e = .returned undef ∧ Nines w' g n (rot f a m b) ∧ Turns1 g w w' := by
  have H := Lib.hid h
  clear h
  have s1 : IntKind.i64.wrap ((m : Int) - (a : Int)) = ((m - a : Nat) : Int) := by rw [IntWalk.i64_in _ (by omega)]; omega
  have s2 : IntKind.i64.wrap ((b : Int) - (m : Int)) = ((b - m : Nat) : Int) := by rw [IntWalk.i64_in _ (by omega)]; omega
  go_enter Try.func96, Try.ntmps96
  go_wp2_with fail
  go_loopw [10, 11] (fun s10 s11 wr => ∃ (i j : Nat) (k : Nat → EntV), 0 < i ∧ 0 < j ∧ i ≤ m - a ∧ j ≤ b - m ∧ s10 = .int .i64 (i : Int) ∧ s11 = .int .i64 (j : Int) ∧ Hid (rot k (m - i) m (m + j) = rot f a m b) ∧ Hid (Nines wr g n k) ∧ Hid (Turns1 g w wr)) (fun s10 s11 _ => (intOf s10).toNat + (intOf s11).toNat)
  case atStart => exact ⟨m - a, b - m, f, by omega, by omega, by omega, by omega, rfl, rfl, Lib.hid (by rw [show m - (m - a) = a from by omega, show m + (b - m) = b from by omega]), H, Lib.hid (Turns1.refl g w)⟩
  case round =>
    obtain ⟨i, j, k, hi0, hj0, hi, hj, rfl, rfl, HE, HR, HT⟩ := hrel
    rename World => wr
    have s3 : IntKind.i64.wrap ((m : Int) - (i : Int)) = ((m - i : Nat) : Int) := by rw [IntWalk.i64_in _ (by omega)]; omega
    rcases Nat.lt_trichotomy i j with hij | hij | hij
    · have z1 : ((i : Int) != (j : Int)) = true := by rw [bne_iff_ne]; omega
      have z2 : ¬ (j : Int) < (i : Int) := by omega
      have s4 : IntKind.i64.wrap ((m : Int) + (j : Int)) = (m : Int) + (j : Int) := IntWalk.i64_in _ (by omega)
      have s5 : IntKind.i64.wrap ((m : Int) + (j : Int) - (i : Int)) = ((m + j - i : Nat) : Int) := by rw [IntWalk.i64_in _ (by omega)]; omega
      have s6 : IntKind.i64.wrap ((j : Int) - (i : Int)) = ((j - i : Nat) : Int) := by rw [IntWalk.i64_in _ (by omega)]; omega
      have HS := Lib.hid (swr_any (cmp := cmp) (c := c) (a := m - i) (b := m + j - i) (m := i) HR.out.drew (by omega) (by omega) hc hcm)
      have HS2 := Lib.hid (swr_any (cmp := cmp) (c := c) (a := m - i) (b := m + j - i) (m := i) HR.out (by omega) (by omega) hc hcm)
      go_wp2_with fail
      first | refine HS2.out.mono ?_ | refine HS.out.mono ?_
      rintro e w2 ⟨rfl, h2, t2⟩
      have HN := Lib.hid h2
      have HU := Lib.hid (HT.out.trans t2)
      have HF := Lib.hid ((rot_lt k m i j hij (by omega)).trans HE.out)
      clear h2 t2
      go_wp2_with fail
      go_roundw
      case rel => exact ⟨i, j - i, _, hi0, by omega, hi, by omega, rfl, by go_num, HF, HN, HU⟩
      case measure => simp [intOf]; omega
    · subst hij
      have z1 : ((i : Int) != (i : Int)) = false := by simp
      have HS := Lib.hid (swr_any (cmp := cmp) (c := c) (a := m - i) (b := m) (m := i) HR.out (by omega) (by omega) hc hcm)
      go_wp2_with fail
      refine HS.out.mono ?_
      rintro e w2 ⟨rfl, h2, t2⟩
      have HN := Lib.hid h2
      have HU := Lib.hid (HT.out.trans t2)
      clear h2 t2
      go_wp2_with fail
      first | go_end0 | refine bodyPost_ret (results_none rfl _ _ _) rfl ?_
      refine ⟨rfl, ?_, HU.out⟩
      rw [← HE.out, ← rot_eq k m i (by omega)]
      exact HN.out
    · have z1 : ((i : Int) != (j : Int)) = true := by rw [bne_iff_ne]; omega
      have z2 : (j : Int) < (i : Int) := by omega
      have s6 : IntKind.i64.wrap ((i : Int) - (j : Int)) = ((i - j : Nat) : Int) := by rw [IntWalk.i64_in _ (by omega)]; omega
      have HS2 := Lib.hid (swr_any (cmp := cmp) (c := c) (a := m - i) (b := m) (m := j) HR.out (by omega) (by omega) hc hcm)
      go_wp2_with fail
      refine HS2.out.mono ?_
      rintro e w2 ⟨rfl, h2, t2⟩
      have HN := Lib.hid h2
      have HU := Lib.hid (HT.out.trans t2)
      have HF := Lib.hid ((rot_gt k m i j hij (by omega)).trans HE.out)
      clear h2 t2
      go_wp2_with fail
      go_roundw
      case rel => exact ⟨i - j, j, _, by omega, hj0, by omega, hj, by go_num, rfl, HF, HN, HU⟩
      case measure => simp [intOf]; omega
end Go.Proofs.Ytpcgjladooijmaa.E
/- Insertion (slices.insertionSortCmpFunc) over rows. Written by genins.py and toent.py. -/
namespace Go.Proofs.Ytpcgjladooijmaa.E
open Go.ChangeShapes Go.WideShapes Go.Deep Go.RowKit Stab
set_option linter.unusedVariables false

def ltE (x y : EntV) : Bool := decide (cmpEnt x y < 0)
def vals (t : Nat → EntV × Nat) : Nat → EntV := fun k => (t k).1
theorem Nines.below {w w' : World} {g n : Nat} {f : Nat → EntV} (h : Nines w g n f) (hg : g < w.heap.size) (hb : Below w.heap.size w w') : Nines w' g n f :=
  ⟨fun i hi j v hv => (hb.cell (p := ⟨g, i * 9 + j, none⟩) hg).trans (h.at' i hi j v hv), fun i hi j hj => ⟨by rw [hb.cell (p := ⟨g, i * 9 + j, none⟩) hg]; exact (h.free i hi j hj).1, by rw [hb.frozen (p := ⟨g, i * 9 + j, none⟩) hg]; exact (h.free i hi j hj).2⟩⟩
theorem vals_swp (t : Nat → EntV × Nat) (p q : Nat) : vals (swp t p q) = swp (vals t) p q := by
  funext k; unfold vals swp; repeat' split
  all_goals rfl
/-- of the elder and the younger: what of l up to j is not above the one at i -/
theorem ins_low {t : Nat → EntV × Nat} (wk : Weak ltE) {a j i : Nat} (hs : Srt (Tag ltE) t a i) (hj : a < j) (hji : j ≤ i) (h : Tag ltE (t (j - 1)) (t i)) : ∀ k, a ≤ k → k < j → Tag ltE (t k) (t i) := fun k hk hkj => by
  by_cases e : k = j - 1
  · rw [e]; exact h
  · exact wk.tag_tr _ _ _ (hs k (j - 1) hk (by omega) (by omega)) h

theorem ins_step (u : Nat → EntV × Nat) {q j0 i : Nat} (hq : q + 1 = j0) (h : j0 ≤ i) : swp (vals (rot u j0 i (i + 1))) j0 q = vals (rot u q i (i + 1)) := by
  subst hq
  rw [← vals_swp, rot_left u q i h]
theorem mem_ins {α : Type} {u t : Nat → α} {a i j : Nat} (hm : ∀ x, Mem u a i x ↔ Mem t a i x) (hk : ∀ k, k < a ∨ i ≤ k → u k = t k) (hai : a ≤ i) (haj : a ≤ j) (hji : j ≤ i) : ∀ x, Mem (rot u j i (i + 1)) a (i + 1) x ↔ Mem t a (i + 1) x := fun x => by
  rw [mem_cut (rot u j i (i + 1)) a j (i + 1) haj (by omega), mem_congr (f := u) (g := rot u j i (i + 1)) (a := a) (b := j) (fun k h1 h2 => by unfold rot; rw [if_neg (by omega)]), mem_rot u j i (i + 1) hji (by omega), ← mem_cut u a j (i + 1) haj (by omega), mem_cut u a i (i + 1) hai (by omega), mem_cut t a i (i + 1) hai (by omega), hm x, mem_congr (f := t) (g := u) (a := i) (b := i + 1) (fun k h1 h2 => hk k (.inr h1))]

set_option maxRecDepth 100000 in
set_option maxHeartbeats 4000000 in
theorem ins_any (wk : Weak ltE) (hcmp : ∀ (x y : EntV) (w : World), Calls Try.prog 73 #[.agg #[.string x.key, .int .i64 x.win, .string x.part, .int .i64 x.fst, .int .i64 x.lst, .int .i64 x.rows, .int .i64 x.size, .int .u32 x.sum, .int .i64 x.born], .agg #[.string y.key, .int .i64 y.win, .string y.part, .int .i64 y.fst, .int .i64 y.lst, .int .i64 y.rows, .int .i64 y.size, .int .u32 y.sum, .int .i64 y.born]] w fun e w' => e = .returned (.int .i64 (cmpEnt x y)) ∧ Below w.heap.size w w') {w : World} {g n c : Nat} {t : Nat → EntV × Nat} {a b : Nat} (h : Nines w g n (vals t)) (hg : g < w.heap.size) (hab : a < b) (hb : b ≤ n) (hc : n ≤ c) (hcx : c ≤ 9223372036854775807) (hcm : n ≤ 9223372036854775806) (ht : ∀ i j, a ≤ i → i < j → j < b → (t i).2 < (t j).2) :
    Calls Try.prog 92 #[.slice (some ⟨g, 0, none⟩) n c, .int .i64 (a : Int), .int .i64 (b : Int), .func (.func 73) #[] #[]] w fun e w' => e = .returned undef ∧ (∃ u, Nines w' g n (vals u) ∧ Srt (Tag ltE) u a b ∧ (∀ x, Mem u a b x ↔ Mem t a b x) ∧ ∀ k, k < a ∨ b ≤ k → u k = t k) ∧ Turns1 g w w' := by
  have H := Lib.hid h
  have HTG := Lib.hid ht
  have HCMP := Lib.hid hcmp
  clear h ht hcmp
  go_enter Try.func92, Try.ntmps92
  go_wp2_with fail
  go_loopw [8, 9] (fun s8 s9 wr => ∃ (i : Nat) (u : Nat → EntV × Nat), a + 1 ≤ i ∧ i ≤ b ∧ s8 = .int .i64 (i : Int) ∧ Hid (Nines wr g n (vals u)) ∧ Hid (Srt (Tag ltE) u a i) ∧ Hid (∀ x, Mem u a i x ↔ Mem t a i x) ∧ Hid (∀ k, k < a ∨ i ≤ k → u k = t k) ∧ Hid (Turns1 g w wr)) (fun s8 _ _ => b - (intOf s8).toNat)
  case atStart => exact ⟨a + 1, t, by omega, by omega, by go_num, H, Lib.hid (fun i j hi hij hj => by omega), Lib.hid (fun x => Iff.rfl), Lib.hid (fun _ _ => rfl), Lib.hid (Turns1.refl g w)⟩
  case round =>
    obtain ⟨i, u, hai, hib, rfl, HN, HS, HM, HK, HT⟩ := hrel
    rename World => wr
    by_cases hlt : i < b
    · have hlti : (i : Int) < (b : Int) := by omega
      go_wp2_with fail
      go_loopw [9] (fun s9 wq => ∃ j : Nat, a ≤ j ∧ j ≤ i ∧ s9 = .int .i64 (j : Int) ∧ Hid (Nines wq g n (vals (rot u j i (i + 1)))) ∧ Hid (∀ k, j ≤ k → k < i → Tag ltE (u i) (u k)) ∧ Hid (Turns1 g w wq)) (fun s9 _ => (intOf s9).toNat)
      case atStart => exact ⟨i, by omega, by omega, rfl, by rw [rot_none' u i (i + 1) (by omega)]; exact HN, Lib.hid (fun k h1 h2 => by omega), HT⟩
      case round =>
        obtain ⟨j0, haj, hji, rfl, HQ, HL, HU⟩ := hrel
        rename World => wq
        by_cases hja : a < j0
        · have hjai : (a : Int) < (j0 : Int) := by omega
          have hjn : (j0 : Int) < (n : Int) := by omega
          obtain ⟨q, hq⟩ : ∃ q, q = j0 - 1 := ⟨_, rfl⟩
          have wj : IntKind.i64.wrap ((j0 : Int) - 1) = (q : Int) := by rw [IntWalk.i64_in _ (by omega)]; omega
          have wjn : (q : Int) < (n : Int) := by omega
          have hjq1 : ¬ j0 = q := by omega
          have hjq2 : ¬ q = j0 := by omega
          have e1 : rot u j0 i (i + 1) j0 = u i := by unfold rot; rw [if_pos (by omega), if_pos (by omega)]; exact at_eq u (by omega)
          have e2 : rot u j0 i (i + 1) q = u q := by unfold rot; rw [if_neg (by omega)]
          obtain ⟨x, hx⟩ : ∃ x, x = vals (rot u j0 i (i + 1)) j0 := ⟨_, rfl⟩
          obtain ⟨y, hy⟩ : ∃ y, y = vals (rot u j0 i (i + 1)) q := ⟨_, rfl⟩
          have hxu : x = (u i).1 := by rw [hx]; unfold vals; rw [e1]
          have hyu : y = (u q).1 := by rw [hy]; unfold vals; rw [e2]
          have Hx := Lib.hid hx
          have Hy := Lib.hid hy
          clear hx hy e1 e2
          have hltg : g < wq.heap.size := Nat.lt_of_lt_of_le hg HU.out.size
          have cx0 : wq.cell? ⟨g, (j0) * 9, none⟩ = some (.string x.key) := HQ.out.at' _ (by omega) 0 _ (by rw [← Hx.out]; rfl)
          have cx1 : wq.cell? ⟨g, (j0) * 9 + 1, none⟩ = some (.int .i64 x.win) := HQ.out.at' _ (by omega) 1 _ (by rw [← Hx.out]; rfl)
          have cx2 : wq.cell? ⟨g, (j0) * 9 + 2, none⟩ = some (.string x.part) := HQ.out.at' _ (by omega) 2 _ (by rw [← Hx.out]; rfl)
          have cx3 : wq.cell? ⟨g, (j0) * 9 + 3, none⟩ = some (.int .i64 x.fst) := HQ.out.at' _ (by omega) 3 _ (by rw [← Hx.out]; rfl)
          have cx4 : wq.cell? ⟨g, (j0) * 9 + 4, none⟩ = some (.int .i64 x.lst) := HQ.out.at' _ (by omega) 4 _ (by rw [← Hx.out]; rfl)
          have cx5 : wq.cell? ⟨g, (j0) * 9 + 5, none⟩ = some (.int .i64 x.rows) := HQ.out.at' _ (by omega) 5 _ (by rw [← Hx.out]; rfl)
          have cx6 : wq.cell? ⟨g, (j0) * 9 + 6, none⟩ = some (.int .i64 x.size) := HQ.out.at' _ (by omega) 6 _ (by rw [← Hx.out]; rfl)
          have cx7 : wq.cell? ⟨g, (j0) * 9 + 7, none⟩ = some (.int .u32 x.sum) := HQ.out.at' _ (by omega) 7 _ (by rw [← Hx.out]; rfl)
          have cx8 : wq.cell? ⟨g, (j0) * 9 + 8, none⟩ = some (.int .i64 x.born) := HQ.out.at' _ (by omega) 8 _ (by rw [← Hx.out]; rfl)
          have cy0 : wq.cell? ⟨g, (q) * 9, none⟩ = some (.string y.key) := HQ.out.at' _ (by omega) 0 _ (by rw [← Hy.out]; rfl)
          have cy1 : wq.cell? ⟨g, (q) * 9 + 1, none⟩ = some (.int .i64 y.win) := HQ.out.at' _ (by omega) 1 _ (by rw [← Hy.out]; rfl)
          have cy2 : wq.cell? ⟨g, (q) * 9 + 2, none⟩ = some (.string y.part) := HQ.out.at' _ (by omega) 2 _ (by rw [← Hy.out]; rfl)
          have cy3 : wq.cell? ⟨g, (q) * 9 + 3, none⟩ = some (.int .i64 y.fst) := HQ.out.at' _ (by omega) 3 _ (by rw [← Hy.out]; rfl)
          have cy4 : wq.cell? ⟨g, (q) * 9 + 4, none⟩ = some (.int .i64 y.lst) := HQ.out.at' _ (by omega) 4 _ (by rw [← Hy.out]; rfl)
          have cy5 : wq.cell? ⟨g, (q) * 9 + 5, none⟩ = some (.int .i64 y.rows) := HQ.out.at' _ (by omega) 5 _ (by rw [← Hy.out]; rfl)
          have cy6 : wq.cell? ⟨g, (q) * 9 + 6, none⟩ = some (.int .i64 y.size) := HQ.out.at' _ (by omega) 6 _ (by rw [← Hy.out]; rfl)
          have cy7 : wq.cell? ⟨g, (q) * 9 + 7, none⟩ = some (.int .u32 y.sum) := HQ.out.at' _ (by omega) 7 _ (by rw [← Hy.out]; rfl)
          have cy8 : wq.cell? ⟨g, (q) * 9 + 8, none⟩ = some (.int .i64 y.born) := HQ.out.at' _ (by omega) 8 _ (by rw [← Hy.out]; rfl)
          cases hlt2 : ltE x y with
          | true =>
            have hneg : cmpEnt x y < 0 := by unfold ltE at hlt2; exact of_decide_eq_true hlt2
            have HTAG := Lib.hid (show Tag ltE (u i) (u q) from .inl (by rw [← hxu, ← hyu]; exact hlt2))
            clear hlt2
            have HXU := Lib.hid hxu
            have HYU := Lib.hid hyu
            have HQJ := Lib.hid hq
            clear hxu hyu hq
            go_wp2_with fail
            go_region_held3 (fun w' => w'.cell? ⟨g, (j0) * 9, none⟩ = some (.string x.key) ∧ w'.cell? ⟨g, (j0) * 9 + 1, none⟩ = some (.int .i64 x.win) ∧ w'.cell? ⟨g, (j0) * 9 + 2, none⟩ = some (.string x.part) ∧ w'.cell? ⟨g, (j0) * 9 + 3, none⟩ = some (.int .i64 x.fst) ∧ w'.cell? ⟨g, (j0) * 9 + 4, none⟩ = some (.int .i64 x.lst) ∧ w'.cell? ⟨g, (j0) * 9 + 5, none⟩ = some (.int .i64 x.rows) ∧ w'.cell? ⟨g, (j0) * 9 + 6, none⟩ = some (.int .i64 x.size) ∧ w'.cell? ⟨g, (j0) * 9 + 7, none⟩ = some (.int .u32 x.sum) ∧ w'.cell? ⟨g, (j0) * 9 + 8, none⟩ = some (.int .i64 x.born) ∧ w'.cell? ⟨g, (q) * 9, none⟩ = some (.string y.key) ∧ w'.cell? ⟨g, (q) * 9 + 1, none⟩ = some (.int .i64 y.win) ∧ w'.cell? ⟨g, (q) * 9 + 2, none⟩ = some (.string y.part) ∧ w'.cell? ⟨g, (q) * 9 + 3, none⟩ = some (.int .i64 y.fst) ∧ w'.cell? ⟨g, (q) * 9 + 4, none⟩ = some (.int .i64 y.lst) ∧ w'.cell? ⟨g, (q) * 9 + 5, none⟩ = some (.int .i64 y.rows) ∧ w'.cell? ⟨g, (q) * 9 + 6, none⟩ = some (.int .i64 y.size) ∧ w'.cell? ⟨g, (q) * 9 + 7, none⟩ = some (.int .u32 y.sum) ∧ w'.cell? ⟨g, (q) * 9 + 8, none⟩ = some (.int .i64 y.born)) (first | go_keep | exact ⟨(hbq.cell (p := ⟨g, (j0) * 9, none⟩) hltg).trans cx0, (hbq.cell (p := ⟨g, (j0) * 9 + 1, none⟩) hltg).trans cx1, (hbq.cell (p := ⟨g, (j0) * 9 + 2, none⟩) hltg).trans cx2, (hbq.cell (p := ⟨g, (j0) * 9 + 3, none⟩) hltg).trans cx3, (hbq.cell (p := ⟨g, (j0) * 9 + 4, none⟩) hltg).trans cx4, (hbq.cell (p := ⟨g, (j0) * 9 + 5, none⟩) hltg).trans cx5, (hbq.cell (p := ⟨g, (j0) * 9 + 6, none⟩) hltg).trans cx6, (hbq.cell (p := ⟨g, (j0) * 9 + 7, none⟩) hltg).trans cx7, (hbq.cell (p := ⟨g, (j0) * 9 + 8, none⟩) hltg).trans cx8, (hbq.cell (p := ⟨g, (q) * 9, none⟩) hltg).trans cy0, (hbq.cell (p := ⟨g, (q) * 9 + 1, none⟩) hltg).trans cy1, (hbq.cell (p := ⟨g, (q) * 9 + 2, none⟩) hltg).trans cy2, (hbq.cell (p := ⟨g, (q) * 9 + 3, none⟩) hltg).trans cy3, (hbq.cell (p := ⟨g, (q) * 9 + 4, none⟩) hltg).trans cy4, (hbq.cell (p := ⟨g, (q) * 9 + 5, none⟩) hltg).trans cy5, (hbq.cell (p := ⟨g, (q) * 9 + 6, none⟩) hltg).trans cy6, (hbq.cell (p := ⟨g, (q) * 9 + 7, none⟩) hltg).trans cy7, (hbq.cell (p := ⟨g, (q) * 9 + 8, none⟩) hltg).trans cy8⟩) (first | (go_at_call 73; refine (HCMP.out x y _).mono ?_; rintro r w3 ⟨rfl, hbq⟩))
            have HN3 := Lib.hid (HQ.out.drew.below hltg hbq)
            have HU3 := Lib.hid (HU.out.drew.below hbq)
            clear hbq cx0 cx1 cx2 cx3 cx4 cx5 cx6 cx7 cx8 cy0 cy1 cy2 cy3 cy4 cy5 cy6 cy7 cy8
            have cx0 : w3.cell? ⟨g, (j0) * 9, none⟩ = some (.string x.key) := HN3.out.at' _ (by omega) 0 _ (by rw [← Hx.out]; rfl)
            have cx1 : w3.cell? ⟨g, (j0) * 9 + 1, none⟩ = some (.int .i64 x.win) := HN3.out.at' _ (by omega) 1 _ (by rw [← Hx.out]; rfl)
            have cx2 : w3.cell? ⟨g, (j0) * 9 + 2, none⟩ = some (.string x.part) := HN3.out.at' _ (by omega) 2 _ (by rw [← Hx.out]; rfl)
            have cx3 : w3.cell? ⟨g, (j0) * 9 + 3, none⟩ = some (.int .i64 x.fst) := HN3.out.at' _ (by omega) 3 _ (by rw [← Hx.out]; rfl)
            have cx4 : w3.cell? ⟨g, (j0) * 9 + 4, none⟩ = some (.int .i64 x.lst) := HN3.out.at' _ (by omega) 4 _ (by rw [← Hx.out]; rfl)
            have cx5 : w3.cell? ⟨g, (j0) * 9 + 5, none⟩ = some (.int .i64 x.rows) := HN3.out.at' _ (by omega) 5 _ (by rw [← Hx.out]; rfl)
            have cx6 : w3.cell? ⟨g, (j0) * 9 + 6, none⟩ = some (.int .i64 x.size) := HN3.out.at' _ (by omega) 6 _ (by rw [← Hx.out]; rfl)
            have cx7 : w3.cell? ⟨g, (j0) * 9 + 7, none⟩ = some (.int .u32 x.sum) := HN3.out.at' _ (by omega) 7 _ (by rw [← Hx.out]; rfl)
            have cx8 : w3.cell? ⟨g, (j0) * 9 + 8, none⟩ = some (.int .i64 x.born) := HN3.out.at' _ (by omega) 8 _ (by rw [← Hx.out]; rfl)
            have zx0 : w3.frozen? ⟨g, (j0) * 9, none⟩ = false := (HN3.out.free _ (by omega) 0 (by omega)).2
            have zx1 : w3.frozen? ⟨g, (j0) * 9 + 1, none⟩ = false := (HN3.out.free _ (by omega) 1 (by omega)).2
            have zx2 : w3.frozen? ⟨g, (j0) * 9 + 2, none⟩ = false := (HN3.out.free _ (by omega) 2 (by omega)).2
            have zx3 : w3.frozen? ⟨g, (j0) * 9 + 3, none⟩ = false := (HN3.out.free _ (by omega) 3 (by omega)).2
            have zx4 : w3.frozen? ⟨g, (j0) * 9 + 4, none⟩ = false := (HN3.out.free _ (by omega) 4 (by omega)).2
            have zx5 : w3.frozen? ⟨g, (j0) * 9 + 5, none⟩ = false := (HN3.out.free _ (by omega) 5 (by omega)).2
            have zx6 : w3.frozen? ⟨g, (j0) * 9 + 6, none⟩ = false := (HN3.out.free _ (by omega) 6 (by omega)).2
            have zx7 : w3.frozen? ⟨g, (j0) * 9 + 7, none⟩ = false := (HN3.out.free _ (by omega) 7 (by omega)).2
            have zx8 : w3.frozen? ⟨g, (j0) * 9 + 8, none⟩ = false := (HN3.out.free _ (by omega) 8 (by omega)).2
            have cy0 : w3.cell? ⟨g, (q) * 9, none⟩ = some (.string y.key) := HN3.out.at' _ (by omega) 0 _ (by rw [← Hy.out]; rfl)
            have cy1 : w3.cell? ⟨g, (q) * 9 + 1, none⟩ = some (.int .i64 y.win) := HN3.out.at' _ (by omega) 1 _ (by rw [← Hy.out]; rfl)
            have cy2 : w3.cell? ⟨g, (q) * 9 + 2, none⟩ = some (.string y.part) := HN3.out.at' _ (by omega) 2 _ (by rw [← Hy.out]; rfl)
            have cy3 : w3.cell? ⟨g, (q) * 9 + 3, none⟩ = some (.int .i64 y.fst) := HN3.out.at' _ (by omega) 3 _ (by rw [← Hy.out]; rfl)
            have cy4 : w3.cell? ⟨g, (q) * 9 + 4, none⟩ = some (.int .i64 y.lst) := HN3.out.at' _ (by omega) 4 _ (by rw [← Hy.out]; rfl)
            have cy5 : w3.cell? ⟨g, (q) * 9 + 5, none⟩ = some (.int .i64 y.rows) := HN3.out.at' _ (by omega) 5 _ (by rw [← Hy.out]; rfl)
            have cy6 : w3.cell? ⟨g, (q) * 9 + 6, none⟩ = some (.int .i64 y.size) := HN3.out.at' _ (by omega) 6 _ (by rw [← Hy.out]; rfl)
            have cy7 : w3.cell? ⟨g, (q) * 9 + 7, none⟩ = some (.int .u32 y.sum) := HN3.out.at' _ (by omega) 7 _ (by rw [← Hy.out]; rfl)
            have cy8 : w3.cell? ⟨g, (q) * 9 + 8, none⟩ = some (.int .i64 y.born) := HN3.out.at' _ (by omega) 8 _ (by rw [← Hy.out]; rfl)
            have zy0 : w3.frozen? ⟨g, (q) * 9, none⟩ = false := (HN3.out.free _ (by omega) 0 (by omega)).2
            have zy1 : w3.frozen? ⟨g, (q) * 9 + 1, none⟩ = false := (HN3.out.free _ (by omega) 1 (by omega)).2
            have zy2 : w3.frozen? ⟨g, (q) * 9 + 2, none⟩ = false := (HN3.out.free _ (by omega) 2 (by omega)).2
            have zy3 : w3.frozen? ⟨g, (q) * 9 + 3, none⟩ = false := (HN3.out.free _ (by omega) 3 (by omega)).2
            have zy4 : w3.frozen? ⟨g, (q) * 9 + 4, none⟩ = false := (HN3.out.free _ (by omega) 4 (by omega)).2
            have zy5 : w3.frozen? ⟨g, (q) * 9 + 5, none⟩ = false := (HN3.out.free _ (by omega) 5 (by omega)).2
            have zy6 : w3.frozen? ⟨g, (q) * 9 + 6, none⟩ = false := (HN3.out.free _ (by omega) 6 (by omega)).2
            have zy7 : w3.frozen? ⟨g, (q) * 9 + 7, none⟩ = false := (HN3.out.free _ (by omega) 7 (by omega)).2
            have zy8 : w3.frozen? ⟨g, (q) * 9 + 8, none⟩ = false := (HN3.out.free _ (by omega) 8 (by omega)).2
            go_wp2_with fail
            go_region
            have HN4 := Lib.hid (HN3.out.swap j0 q (by omega) (by have := HQJ.out; omega) x y Hx.out Hy.out).drew
            have HU4 := Lib.hid (((HU3.out.sets y.cells (j0 * 9)).sets x.cells (q * 9)).drew)
            rw [ins_step u (by have := HQJ.out; omega) hji] at HN4
            have HL4 := Lib.hid (show ∀ k, q ≤ k → k < i → Tag ltE (u i) (u k) from fun k h1 h2 => by
              by_cases e : k = q
              · rw [e]; exact HTAG.out
              · exact HL.out k (by have := HQJ.out; omega) h2)
            have hqj : a ≤ q ∧ q ≤ i ∧ q < j0 := by have := HQJ.out; omega
            go_wp2_with fail
            go_roundw
            case rel => exact ⟨q, hqj.1, hqj.2.1, by go_num, HN4, HL4, HU4⟩
            case measure => simp [intOf]; omega
          | false =>
            have hneg : ¬ cmpEnt x y < 0 := by unfold ltE at hlt2; exact of_decide_eq_false hlt2
            have hlow := ins_low wk HS.out hja hji (by
              rw [← hq]
              obtain ⟨k, hk1, hk2, hk3⟩ := (HM.out (u q)).1 ⟨q, by omega, by omega, rfl⟩
              refine .inr ⟨by rw [← hxu, ← hyu]; exact hlt2, ?_⟩
              rw [← hk3, HK.out i (.inr (Nat.le_refl _))]
              exact HTG.out k i hk1 hk2 hlt)
            have HSRT := Lib.hid (HS.out.insert (f := u) haj hji hlow HL.out)
            clear hlt2 hxu hyu hq hlow
            go_wp2_with fail
            go_region_held3 (fun w' => w'.cell? ⟨g, (j0) * 9, none⟩ = some (.string x.key) ∧ w'.cell? ⟨g, (j0) * 9 + 1, none⟩ = some (.int .i64 x.win) ∧ w'.cell? ⟨g, (j0) * 9 + 2, none⟩ = some (.string x.part) ∧ w'.cell? ⟨g, (j0) * 9 + 3, none⟩ = some (.int .i64 x.fst) ∧ w'.cell? ⟨g, (j0) * 9 + 4, none⟩ = some (.int .i64 x.lst) ∧ w'.cell? ⟨g, (j0) * 9 + 5, none⟩ = some (.int .i64 x.rows) ∧ w'.cell? ⟨g, (j0) * 9 + 6, none⟩ = some (.int .i64 x.size) ∧ w'.cell? ⟨g, (j0) * 9 + 7, none⟩ = some (.int .u32 x.sum) ∧ w'.cell? ⟨g, (j0) * 9 + 8, none⟩ = some (.int .i64 x.born) ∧ w'.cell? ⟨g, (q) * 9, none⟩ = some (.string y.key) ∧ w'.cell? ⟨g, (q) * 9 + 1, none⟩ = some (.int .i64 y.win) ∧ w'.cell? ⟨g, (q) * 9 + 2, none⟩ = some (.string y.part) ∧ w'.cell? ⟨g, (q) * 9 + 3, none⟩ = some (.int .i64 y.fst) ∧ w'.cell? ⟨g, (q) * 9 + 4, none⟩ = some (.int .i64 y.lst) ∧ w'.cell? ⟨g, (q) * 9 + 5, none⟩ = some (.int .i64 y.rows) ∧ w'.cell? ⟨g, (q) * 9 + 6, none⟩ = some (.int .i64 y.size) ∧ w'.cell? ⟨g, (q) * 9 + 7, none⟩ = some (.int .u32 y.sum) ∧ w'.cell? ⟨g, (q) * 9 + 8, none⟩ = some (.int .i64 y.born)) (first | go_keep | exact ⟨(hbq.cell (p := ⟨g, (j0) * 9, none⟩) hltg).trans cx0, (hbq.cell (p := ⟨g, (j0) * 9 + 1, none⟩) hltg).trans cx1, (hbq.cell (p := ⟨g, (j0) * 9 + 2, none⟩) hltg).trans cx2, (hbq.cell (p := ⟨g, (j0) * 9 + 3, none⟩) hltg).trans cx3, (hbq.cell (p := ⟨g, (j0) * 9 + 4, none⟩) hltg).trans cx4, (hbq.cell (p := ⟨g, (j0) * 9 + 5, none⟩) hltg).trans cx5, (hbq.cell (p := ⟨g, (j0) * 9 + 6, none⟩) hltg).trans cx6, (hbq.cell (p := ⟨g, (j0) * 9 + 7, none⟩) hltg).trans cx7, (hbq.cell (p := ⟨g, (j0) * 9 + 8, none⟩) hltg).trans cx8, (hbq.cell (p := ⟨g, (q) * 9, none⟩) hltg).trans cy0, (hbq.cell (p := ⟨g, (q) * 9 + 1, none⟩) hltg).trans cy1, (hbq.cell (p := ⟨g, (q) * 9 + 2, none⟩) hltg).trans cy2, (hbq.cell (p := ⟨g, (q) * 9 + 3, none⟩) hltg).trans cy3, (hbq.cell (p := ⟨g, (q) * 9 + 4, none⟩) hltg).trans cy4, (hbq.cell (p := ⟨g, (q) * 9 + 5, none⟩) hltg).trans cy5, (hbq.cell (p := ⟨g, (q) * 9 + 6, none⟩) hltg).trans cy6, (hbq.cell (p := ⟨g, (q) * 9 + 7, none⟩) hltg).trans cy7, (hbq.cell (p := ⟨g, (q) * 9 + 8, none⟩) hltg).trans cy8⟩) (first | (go_at_call 73; refine (HCMP.out x y _).mono ?_; rintro r w3 ⟨rfl, hbq⟩))
            have HN3 := Lib.hid (HQ.out.drew.below hltg hbq)
            have HU3 := Lib.hid (HU.out.drew.below hbq)
            clear hbq cx0 cx1 cx2 cx3 cx4 cx5 cx6 cx7 cx8 cy0 cy1 cy2 cy3 cy4 cy5 cy6 cy7 cy8
            have HMEM := Lib.hid (mem_ins HM.out HK.out (by omega) haj hji)
            have HKP := Lib.hid (fun k (hk : k < a ∨ i + 1 ≤ k) => (show rot u j0 i (i + 1) k = u k from by unfold rot; rw [if_neg (by omega)]).trans (HK.out k (by omega)))
            go_wp2_with fail
            go_roundw
            case rel => exact ⟨i + 1, rot u j0 i (i + 1), by omega, by omega, by go_num, HN3, HSRT, HMEM, HKP, HU3⟩
            case measure => simp [intOf]; omega
        · have hjan : ¬ (a : Int) < (j0 : Int) := by omega
          have hlow : ∀ k, a ≤ k → k < j0 → Tag ltE (u k) (u i) := fun k h1 h2 => by omega
          have HSRT := Lib.hid (HS.out.insert (f := u) haj hji hlow HL.out)
          go_wp2_with fail
          go_region
          have HN3 := Lib.hid HQ.out.drew
          have HU3 := Lib.hid HU.out.drew
          have HMEM := Lib.hid (mem_ins HM.out HK.out (by omega) haj hji)
          have HKP := Lib.hid (fun k (hk : k < a ∨ i + 1 ≤ k) => (show rot u j0 i (i + 1) k = u k from by unfold rot; rw [if_neg (by omega)]).trans (HK.out k (by omega)))
          go_wp2_with fail
          go_roundw
          case rel => exact ⟨i + 1, rot u j0 i (i + 1), by omega, by omega, by go_num, HN3, HSRT, HMEM, HKP, HU3⟩
          case measure => simp [intOf]; omega
    · obtain rfl : i = b := by omega
      go_wp2_with fail
      first | go_end0 | refine bodyPost_ret (results_none rfl _ _ _) rfl ?_
      exact ⟨rfl, ⟨u, HN.out, HS.out, HM.out, HK.out⟩, HT.out⟩
end Go.Proofs.Ytpcgjladooijmaa.E
/- The order of entries is one with ties. -/
namespace Go.Proofs.Ytpcgjladooijmaa.E
open Stab LabPlain
set_option linter.unusedVariables false

/-- a comparison that says less, alike, more, and does so soundly -/
structure Good {α : Type} (c : α → α → Int) : Prop where
  anti : ∀ x y, c x y < 0 ↔ 0 < c y x
  tr : ∀ x y z, c x y ≤ 0 → c y z ≤ 0 → c x z ≤ 0 ∧ (c x z = 0 → c x y = 0 ∧ c y z = 0)
theorem Good.lex {α : Type} {c d : α → α → Int} (hc : Good c) (hd : Good d) : Good (fun x y => if c x y ≠ 0 then c x y else d x y) where
  anti x y := by
    have h1 := hc.anti x y
    have h2 := hc.anti y x
    have h3 := hd.anti x y
    show (if c x y ≠ 0 then c x y else d x y) < 0 ↔ 0 < (if c y x ≠ 0 then c y x else d y x)
    split <;> split <;> omega
  tr x y z h1 h2 := by
    have a1 := hc.anti x y
    have a2 := hc.anti y x
    have b1 := hc.anti y z
    have b2 := hc.anti z y
    have e1 := hc.tr x y z
    have e2 := hd.tr x y z
    have f1 := hc.anti x z
    have f2 := hc.anti z x
    show (if c x z ≠ 0 then c x z else d x z) ≤ 0 ∧ ((if c x z ≠ 0 then c x z else d x z) = 0 → (if c x y ≠ 0 then c x y else d x y) = 0 ∧ (if c y z ≠ 0 then c y z else d y z) = 0)
    have h1' : (if c x y ≠ 0 then c x y else d x y) ≤ 0 := h1
    have h2' : (if c y z ≠ 0 then c y z else d y z) ≤ 0 := h2
    clear h1 h2
    have e3 := hc.tr z y x
    split at h1' <;> split at h2' <;> split <;> simp_all <;> omega
theorem good3 {α : Type} (f : α → Int) : Good (fun x y => cmp3 (f x) (f y)) where
  anti x y := by
    show cmp3 (f x) (f y) < 0 ↔ 0 < cmp3 (f y) (f x)
    unfold cmp3; repeat' split
    all_goals omega
  tr x y z := by
    show cmp3 (f x) (f y) ≤ 0 → cmp3 (f y) (f z) ≤ 0 → cmp3 (f x) (f z) ≤ 0 ∧ (cmp3 (f x) (f z) = 0 → cmp3 (f x) (f y) = 0 ∧ cmp3 (f y) (f z) = 0)
    unfold cmp3; repeat' split
    all_goals omega
theorem ltB_total {a b : ByteArray} (h1 : ltB a b = false) (h2 : ltB b a = false) : a = b := by
  have h := leq_not a b
  rw [h2] at h
  have h3 : (Op.bytesLess a.toList b.toList) = false := h1
  rw [h3] at h
  simp at h
  exact toList_inj h
theorem goodS {α : Type} (f : α → ByteArray) : Good (fun x y => cmpS (f x) (f y)) where
  anti x y := by
    show cmpS (f x) (f y) < 0 ↔ 0 < cmpS (f y) (f x)
    unfold cmpS
    have hno : ¬ (ltB (f x) (f y) = true ∧ ltB (f y) (f x) = true) := fun h => by
      have := ltB_trans h.1 h.2
      rw [ltB_irrefl] at this; cases this
    repeat' split
    all_goals first | omega | (exfalso; exact hno ⟨by assumption, by assumption⟩) | simp_all
  tr x y z := by
    show cmpS (f x) (f y) ≤ 0 → cmpS (f y) (f z) ≤ 0 → cmpS (f x) (f z) ≤ 0 ∧ (cmpS (f x) (f z) = 0 → cmpS (f x) (f y) = 0 ∧ cmpS (f y) (f z) = 0)
    intro h1 h2
    have key : ∀ a b : ByteArray, cmpS a b ≤ 0 → (ltB a b = true ∧ cmpS a b = -1) ∨ (a = b ∧ cmpS a b = 0) := by
      intro a b h
      unfold cmpS at h ⊢
      cases h3 : ltB a b with
      | true => left; simp
      | false =>
        rw [h3] at h
        cases h4 : ltB b a with
        | true => rw [h4] at h; simp at h
        | false => right; exact ⟨ltB_total h3 h4, by simp⟩
    have self : ∀ a : ByteArray, cmpS a a = 0 := fun a => by unfold cmpS; simp [ltB_irrefl]
    have less : ∀ a b : ByteArray, ltB a b = true → cmpS a b = -1 := fun a b h => by unfold cmpS; rw [if_pos h]
    rcases key _ _ h1 with ⟨p1, p2⟩ | ⟨p1, p2⟩ <;> rcases key _ _ h2 with ⟨q1, q2⟩ | ⟨q1, q2⟩
    · rw [less _ _ (ltB_trans p1 q1)]; omega
    · rw [q1] at p2 p1 ⊢; rw [less _ _ p1]; omega
    · rw [p1]; rw [less _ _ q1]; omega
    · rw [p1, q1, self]; omega
theorem cmpEnt_lex : cmpEnt = (fun x y => if cmp3 (EntV.win x) (EntV.win y) ≠ 0 then cmp3 (EntV.win x) (EntV.win y) else if cmpS (EntV.part x) (EntV.part y) ≠ 0 then cmpS (EntV.part x) (EntV.part y) else if cmp3 (EntV.born x) (EntV.born y) ≠ 0 then cmp3 (EntV.born x) (EntV.born y) else cmpS (EntV.key x) (EntV.key y)) := by
  funext x y; rfl
theorem good_ent : Good cmpEnt := by
  have h := (good3 EntV.win).lex ((goodS EntV.part).lex ((good3 EntV.born).lex (goodS EntV.key)))
  rw [cmpEnt_lex]
  exact h
theorem weak_ltE : Weak ltE where
  irr x := by
    unfold ltE; rw [decide_eq_false_iff_not]
    have := good_ent.anti x x
    omega
  tr x y z h1 h2 := by
    unfold ltE at *
    rw [decide_eq_true_iff] at *
    have := good_ent.tr x y z (by omega) (by omega)
    omega
  co x y z h1 h2 := by
    unfold ltE at *
    rw [decide_eq_false_iff_not] at *
    have a1 := good_ent.anti x y
    have a2 := good_ent.anti y x
    have a3 := good_ent.anti y z
    have a4 := good_ent.anti z y
    have a5 := good_ent.anti x z
    have := good_ent.tr z y x (by omega) (by omega)
    omega
end Go.Proofs.Ytpcgjladooijmaa.E
/- A region whose operations come up in any order: walked once for each operation, not once for each order. -/
namespace Go.Proofs.Ytpcgjladooijmaa.E
open Go.RowKit
set_option linter.unusedVariables false

def slotOf (ops : Array Oper) (i : Nat) : Option Tmp := (ops[i]?).bind (·.dst)
def upd (v : Nat → Value) (i : Nat) (x : Value) : Nat → Value := fun j => if j = i then x else v j
/-- a state in which the first k operations have left these values -/
def fill (ops : Array Oper) (a : Act) (v : Nat → Value) : Nat → Act
  | 0 => a
  | k + 1 => (fill ops a v k).put (slotOf ops k) (v k)
theorem put_put (a : Act) (d : Option Tmp) (x y : Value) : (a.put d x).put d y = a.put d y := by
  cases d with
  | none => rfl
  | some d => simp [Act.put]
theorem put_self (a : Act) (d : Tmp) : a.put (some d) (a.tmps.getD d undef) = a := by
  obtain ⟨t, f⟩ := a
  show (⟨t.setIfInBounds d (t.getD d undef), f⟩ : Act) = ⟨t, f⟩
  congr 1
  apply Array.ext
  · simp
  · intro i h1 h2
    rw [Array.getElem_setIfInBounds]
    split
    · rename_i e; subst e; simp [h2]
    · rfl
theorem fill_ext {ops : Array Oper} {a : Act} {v u : Nat → Value} : ∀ k, (∀ j, j < k → v j = u j) → fill ops a v k = fill ops a u k
  | 0, _ => rfl
  | k + 1, h => by rw [fill, fill, fill_ext k (fun j hj => h j (by omega)), h k (by omega)]
theorem fill_self {ops : Array Oper} {a : Act} : ∀ k, fill ops a (fun i => match slotOf ops i with | some d => a.tmps.getD d undef | none => undef) k = a
  | 0 => rfl
  | k + 1 => by
    rw [fill, fill_self k]
    cases h : slotOf ops k with
    | none => rfl
    | some d => exact put_self a d
theorem fill_upd {ops : Array Oper} {a : Act} {v : Nat → Value} {n : Nat} (hne : ∀ i j d, i < n → j < n → slotOf ops i = some d → slotOf ops j = some d → i = j) {i : Nat} (x : Value) :
    ∀ k, i < k → k ≤ n → (fill ops a v k).put (slotOf ops i) x = fill ops a (upd v i x) k
  | 0, h, _ => by omega
  | k + 1, h, hk => by
    rcases Nat.lt_or_ge i k with g | g
    · have hx : upd v i x k = v k := by unfold upd; rw [if_neg (by omega)]
      rw [fill, fill, ← fill_upd hne x k g (by omega), hx, Act.put_comm _ _ _ (fun d hd hd2 => by have := hne i k d (by omega) (by omega) hd2 hd; omega)]
    · obtain rfl : i = k := by omega
      have hx : upd v i x i = x := by unfold upd; rw [if_pos rfl]
      rw [fill, fill, put_put, hx, show fill ops a (upd v i x) i = fill ops a v i from fill_ext i (fun j hj => by unfold upd; rw [if_neg (by omega)])]

theorem filter_less {α : Type} {p q : α → Bool} (h : ∀ x, q x = true → p x = true) {y : α} (hy : p y = true) (hn : q y = false) : ∀ l : List α, y ∈ l → (l.filter q).length < (l.filter p).length
  | [], hm => by cases hm
  | x :: l, hm => by
    have hle : (l.filter q).length ≤ (l.filter p).length := by
      clear hm
      induction l with
      | nil => exact Nat.le_refl _
      | cons z l ih =>
        cases hq : q z with
        | true => rw [List.filter_cons_of_pos hq, List.filter_cons_of_pos (h z hq)]; simpa using ih
        | false =>
          rw [List.filter_cons_of_neg (by simp [hq])]
          cases hp : p z with
          | true => rw [List.filter_cons_of_pos hp, List.length_cons]; omega
          | false => rw [List.filter_cons_of_neg (by simp [hp])]; exact ih
    rcases List.mem_cons.1 hm with rfl | hm
    · rw [List.filter_cons_of_neg (by simp [hn]), List.filter_cons_of_pos hy, List.length_cons]; omega
    · have ih := filter_less h hy hn l hm
      cases hq : q x with
      | true => rw [List.filter_cons_of_pos hq, List.filter_cons_of_pos (h x hq), List.length_cons, List.length_cons]; omega
      | false =>
        rw [List.filter_cons_of_neg (by simp [hq])]
        cases hp : p x with
        | true => rw [List.filter_cons_of_pos hp, List.length_cons]; omega
        | false => rw [List.filter_cons_of_neg (by simp [hp])]; exact ih

/-- The law. J: what is held of the world all along; F i x w: what is known of operation i's value once it has come up. -/
theorem wp_region_fill {P : Program} {ops : Array Oper} {Q : Exit → Act → World → Prop} {id : Nat} {a : Act} {w : World} (hm : P.follows .mixedOrders = true)
    (hne : ((List.range ops.size).all fun i => (List.range ops.size).all fun j => decide (i = j) || (slotOf ops i == none) || !(slotOf ops i == slotOf ops j)) = true)
    (hac : ((List.range ops.size).all fun i => (ops[i]?).all fun (o : Oper) => o.after.all fun (e : Edge) => !Region.binds .any e || decide (e.on < i)) = true)
    (J : World → Prop) (F : Nat → Value → World → Prop) (hJ : J w.drew)
    (step : ∀ (i : Nat) (o : Oper), ops[i]? = some o → ∀ (v : Nat → Value) (w1 : World) (K : Act → World → Prop), J w1 → (∀ e : Edge, e ∈ o.after → Region.binds .any e = true → F e.on (v e.on) w1) →
      (∀ x w2, J w2 → F i x w2 → (∀ j y, F j y w1 → F j y w2) → ∀ a2, a2 = (fill ops a v ops.size).put o.dst x → K a2 w2) →
      if Region.wanted o (yielded ops (fill ops a v ops.size).tmps) = true then Oper.wp P o (fill ops a v ops.size) w1 K Q else K ((fill ops a v ops.size).put o.dst undef) w1)
    (last : ∀ (v : Nat → Value) (w1 : World), J w1 → (∀ i, i < ops.size → F i (v i) w1) → Q .normal (fill ops a v ops.size) w1) : (Code.region id ops true).wp P Q a w := by
  have hne2 : ∀ i j d, i < ops.size → j < ops.size → slotOf ops i = some d → slotOf ops j = some d → i = j := by
    intro i j d hi hj h1 h2
    have := List.all_eq_true.1 (List.all_eq_true.1 hne i (List.mem_range.2 hi)) j (List.mem_range.2 hj)
    rw [h1, h2] at this
    simpa using this
  have hac2 : ∀ (i : Nat) (o : Oper), ops[i]? = some o → ∀ e : Edge, e ∈ o.after → Region.binds .any e = true → e.on < i := by
    intro i o ho e he hb
    have hlt := (Array.getElem?_eq_some_iff.1 ho).1
    have := List.all_eq_true.1 hac i (List.mem_range.2 hlt)
    rw [ho] at this
    have h3 : (o.after.all fun (e : Edge) => !Region.binds .any e || decide (e.on < i)) = true := this
    have h2 := Array.all_eq_true_iff_forall_mem.1 h3 e he
    rw [hb] at h2
    simpa using h2
  refine wp_region_any hm ?_
  have key : ∀ (fuel : Nat) (listed : Array Bool) (v : Nat → Value) (w1 : World), listed.size = ops.size → J w1 → (∀ i, listed.getD i false = true → F i (v i) w1) →
      ((List.range ops.size).filter fun i => !listed.getD i true).length ≤ fuel → wpAny P .any ops Q fuel listed (fill ops a v ops.size) w1 := by
    intro fuel
    induction fuel with
    | zero =>
      intro listed v w1 hsz hj hf hc
      have hall : ∀ i, i < ops.size → listed.getD i true = true := by
        intro i hi
        cases hl : listed.getD i true with
        | true => rfl
        | false =>
          have : i ∈ (List.range ops.size).filter fun i => !listed.getD i true := List.mem_filter.2 ⟨List.mem_range.2 hi, by rw [hl]; rfl⟩
          rw [List.eq_nil_of_length_eq_zero (by omega : ((List.range ops.size).filter fun i => !listed.getD i true).length = 0)] at this
          cases this
      have hr : Region.ready .any ops listed = [] := by
        rw [List.eq_nil_iff_forall_not_mem]
        intro i hi
        obtain ⟨h1, o, ho, _⟩ := mem_ready.1 hi
        rw [hall i (Array.getElem?_eq_some_iff.1 ho).1] at h1
        cases h1
      refine ⟨hr, last v w1 hj fun i hi => hf i ?_⟩
      have := hall i hi
      simpa [hsz, hi] using this
    | succ fuel ih =>
      intro listed v w1 hsz hj hf hc
      refine ⟨fun hr => last v w1 hj fun i hi => hf i ?_, fun i hi => ?_⟩
      · have : ∀ k, k < ops.size → listed.getD k false = true := by
          intro k
          induction k using Nat.strongRecOn with
          | _ k ihk =>
            intro hk
            cases hl : listed.getD k false with
            | true => rfl
            | false =>
              exfalso
              have hmem : k ∈ Region.ready .any ops listed := mem_ready.2 ⟨by simpa [hsz, hk] using hl, ops[k], by simp [hk], fun e he hb => ihk e.on (hac2 k _ (by simp [hk]) e he hb) (by have := hac2 k _ (by simp [hk] : ops[k]? = some ops[k]) e he hb; omega)⟩
              rw [hr] at hmem
              cases hmem
        exact this i hi
      · obtain ⟨h1, o, ho, h2⟩ := mem_ready.1 hi
        have hlt : i < ops.size := (Array.getElem?_eq_some_iff.1 ho).1
        have hst := step i o ho v w1 (wpAny P .any ops Q fuel (listed.setIfInBounds i true)) hj (fun e he hb => hf e.on (h2 e he hb)) (fun x w2 hj2 hF hmono a2 ha2 => by
          have hso : slotOf ops i = o.dst := by unfold slotOf; rw [ho]; rfl
          rw [ha2, ← hso, fill_upd hne2 x ops.size hlt (Nat.le_refl _)]
          refine ih (listed.setIfInBounds i true) (upd v i x) w2 (by simpa using hsz) hj2 (fun j hjl => ?_) ?_
          · unfold upd
            by_cases e : j = i
            · rw [if_pos e, e]; exact hF
            · rw [if_neg e]
              refine hmono j _ (hf j ?_)
              have hji : ¬ i = j := fun h => e h.symm
              simpa [Array.getD_eq_getD_getElem?, Array.getElem?_setIfInBounds, hji] using hjl
          · have hlt3 := filter_less (p := fun i => !listed.getD i true) (q := fun j => !(listed.setIfInBounds i true).getD j true) (y := i) (fun j hjq => by
              by_cases e : i = j
              · subst e; simpa using h1
              · simpa [Array.getD_eq_getD_getElem?, Array.getElem?_setIfInBounds, e] using hjq) (by simpa using h1) (by simp [Array.getD_eq_getD_getElem?, hsz, hlt]) (List.range ops.size) (List.mem_range.2 hlt)
            omega)
        unfold wpOp
        rw [ho]
        show if Region.wanted o (yielded ops (fill ops a v ops.size).tmps) = true then _ else _
        split at hst
        · rename_i hw; rw [if_pos hw]; exact .inl hst
        · rename_i hw; rw [if_neg hw]; exact hst
  have h0 := key ops.size (Array.replicate ops.size false) (fun i => match slotOf ops i with | some d => a.tmps.getD d undef | none => undef) w.drew (by simp) hJ (fun i hi => by
    exfalso
    by_cases hlt : i < ops.size <;> simp [Array.getD_eq_getD_getElem?, hlt] at hi) (Nat.le_trans (List.length_filter_le _ _) (by simp))
  rw [fill_self] at h0
  exact h0

/-- The law at its widest: I L v w: what holds when the operations of L have come up and left the values v. -/
theorem wp_region_inv {P : Program} {ops : Array Oper} {Q : Exit → Act → World → Prop} {id : Nat} {a : Act} {w : World} (hm : P.follows .mixedOrders = true)
    (hne : ((List.range ops.size).all fun i => (List.range ops.size).all fun j => decide (i = j) || (slotOf ops i == none) || !(slotOf ops i == slotOf ops j)) = true)
    (hac : ((List.range ops.size).all fun i => (ops[i]?).all fun (o : Oper) => o.after.all fun (e : Edge) => !Region.binds .any e || decide (e.on < i)) = true)
    (I : (Nat → Bool) → (Nat → Value) → World → Prop) (h0 : ∀ v, I (fun _ => false) v w.drew)
    (step : ∀ (i : Nat) (o : Oper), ops[i]? = some o → ∀ (L : Nat → Bool) (v : Nat → Value) (w1 : World) (K : Act → World → Prop), I L v w1 → L i = false → (∀ e : Edge, e ∈ o.after → Region.binds .any e = true → L e.on = true) →
      (∀ x w2, I (fun j => L j || decide (j = i)) (upd v i x) w2 → ∀ a2, a2 = (fill ops a v ops.size).put o.dst x → K a2 w2) →
      if Region.wanted o (yielded ops (fill ops a v ops.size).tmps) = true then Oper.wp P o (fill ops a v ops.size) w1 K Q else K ((fill ops a v ops.size).put o.dst undef) w1)
    (last : ∀ (L : Nat → Bool) (v : Nat → Value) (w1 : World), I L v w1 → (∀ i, i < ops.size → L i = true) → Q .normal (fill ops a v ops.size) w1) : (Code.region id ops true).wp P Q a w := by
  have hne2 : ∀ i j d, i < ops.size → j < ops.size → slotOf ops i = some d → slotOf ops j = some d → i = j := by
    intro i j d hi hj h1 h2
    have := List.all_eq_true.1 (List.all_eq_true.1 hne i (List.mem_range.2 hi)) j (List.mem_range.2 hj)
    rw [h1, h2] at this
    simpa using this
  have hac2 : ∀ (i : Nat) (o : Oper), ops[i]? = some o → ∀ e : Edge, e ∈ o.after → Region.binds .any e = true → e.on < i := by
    intro i o ho e he hb
    have hlt := (Array.getElem?_eq_some_iff.1 ho).1
    have := List.all_eq_true.1 hac i (List.mem_range.2 hlt)
    rw [ho] at this
    have h3 : (o.after.all fun (e : Edge) => !Region.binds .any e || decide (e.on < i)) = true := this
    have h2 := Array.all_eq_true_iff_forall_mem.1 h3 e he
    rw [hb] at h2
    simpa using h2
  refine wp_region_any hm ?_
  have key : ∀ (fuel : Nat) (listed : Array Bool) (v : Nat → Value) (w1 : World), listed.size = ops.size → I (fun i => listed.getD i false) v w1 →
      ((List.range ops.size).filter fun i => !listed.getD i true).length ≤ fuel → wpAny P .any ops Q fuel listed (fill ops a v ops.size) w1 := by
    intro fuel
    induction fuel with
    | zero =>
      intro listed v w1 hsz hI hc
      have hall : ∀ i, i < ops.size → listed.getD i true = true := by
        intro i hi
        cases hl : listed.getD i true with
        | true => rfl
        | false =>
          have : i ∈ (List.range ops.size).filter fun i => !listed.getD i true := List.mem_filter.2 ⟨List.mem_range.2 hi, by rw [hl]; rfl⟩
          rw [List.eq_nil_of_length_eq_zero (by omega : ((List.range ops.size).filter fun i => !listed.getD i true).length = 0)] at this
          cases this
      have hr : Region.ready .any ops listed = [] := by
        rw [List.eq_nil_iff_forall_not_mem]
        intro i hi
        obtain ⟨h1, o, ho, _⟩ := mem_ready.1 hi
        rw [hall i (Array.getElem?_eq_some_iff.1 ho).1] at h1
        cases h1
      refine ⟨hr, last _ v w1 hI fun i hi => ?_⟩
      have := hall i hi
      simpa [hsz, hi] using this
    | succ fuel ih =>
      intro listed v w1 hsz hI hc
      refine ⟨fun hr => last _ v w1 hI fun i hi => ?_, fun i hi => ?_⟩
      · have : ∀ k, k < ops.size → listed.getD k false = true := by
          intro k
          induction k using Nat.strongRecOn with
          | _ k ihk =>
            intro hk
            cases hl : listed.getD k false with
            | true => rfl
            | false =>
              exfalso
              have hmem : k ∈ Region.ready .any ops listed := mem_ready.2 ⟨by simpa [hsz, hk] using hl, ops[k], by simp [hk], fun e he hb => ihk e.on (hac2 k _ (by simp [hk]) e he hb) (by have := hac2 k _ (by simp [hk] : ops[k]? = some ops[k]) e he hb; omega)⟩
              rw [hr] at hmem
              cases hmem
        exact this i hi
      · obtain ⟨h1, o, ho, h2⟩ := mem_ready.1 hi
        have hlt : i < ops.size := (Array.getElem?_eq_some_iff.1 ho).1
        have hst := step i o ho (fun i => listed.getD i false) v w1 (wpAny P .any ops Q fuel (listed.setIfInBounds i true)) hI (by simpa [hsz, hlt] using h1) h2 (fun x w2 hI2 a2 ha2 => by
          have hso : slotOf ops i = o.dst := by unfold slotOf; rw [ho]; rfl
          rw [ha2, ← hso, fill_upd hne2 x ops.size hlt (Nat.le_refl _)]
          refine ih (listed.setIfInBounds i true) (upd v i x) w2 (by simpa using hsz) ?_ ?_
          · have he : (fun j => (listed.setIfInBounds i true).getD j false) = fun j => listed.getD j false || decide (j = i) := by
              funext j
              by_cases e : j = i
              · subst e; simp [Array.getD_eq_getD_getElem?, hsz, hlt]
              · have e2 : ¬ i = j := fun h => e h.symm
                simp [Array.getD_eq_getD_getElem?, e, e2]
            rw [he]; exact hI2
          · have hlt3 := filter_less (p := fun i => !listed.getD i true) (q := fun j => !(listed.setIfInBounds i true).getD j true) (y := i) (fun j hjq => by
              by_cases e : i = j
              · subst e; simpa using h1
              · simpa [Array.getD_eq_getD_getElem?, Array.getElem?_setIfInBounds, e] using hjq) (by simpa using h1) (by simp [Array.getD_eq_getD_getElem?, hsz, hlt]) (List.range ops.size) (List.mem_range.2 hlt)
            omega)
        unfold wpOp
        rw [ho]
        show if Region.wanted o (yielded ops (fill ops a v ops.size).tmps) = true then _ else _
        split at hst
        · rename_i hw; rw [if_pos hw]; exact .inl hst
        · rename_i hw; rw [if_neg hw]; exact hst
  have hk := key ops.size (Array.replicate ops.size false) (fun i => match slotOf ops i with | some d => a.tmps.getD d undef | none => undef) w.drew (by simp) (by
    have he : (fun i => (Array.replicate ops.size false).getD i false) = fun _ => false := by
      funext i
      by_cases hlt : i < ops.size <;> simp [Array.getD_eq_getD_getElem?, hlt]
    rw [he]; exact h0 _) (Nat.le_trans (List.length_filter_le _ _) (by simp))
  rw [fill_self] at hk
  exact hk
end Go.Proofs.Ytpcgjladooijmaa.E
/- The comparison of entries, walked. Written by genecompare.py. -/
namespace Go.Proofs.Ytpcgjladooijmaa.E
open Go.ChangeShapes Go.WideShapes Go.Deep Go.RowKit LabPlain
set_option linter.unusedVariables false

theorem nan_any (x : Int) (w : World) : Calls Try.prog 71 #[.int .i64 x] w fun e w' => e = .returned (.bool false) ∧ Below w.heap.size w w' := by
  have z : (x != x) = false := by simp
  go_enter Try.func71, Try.ntmps71
  go_wp2_with fail
  go_ret
  exact ⟨rfl, Below.refl _ _⟩
theorem cmp_any (x y : Int) (w : World) : Calls Try.prog 57 #[.int .i64 x, .int .i64 y] w fun e w' => e = .returned (.int .i64 (cmp3 x y)) ∧ Below w.heap.size w w' := by
  by_cases h : x < y
  · go_enter Try.func57, Try.ntmps57
    go_wp2_with fail
    refine (nan_any x w).mono ?_
    rintro e w2 ⟨rfl, hb2⟩
    go_wp2_with fail
    refine (nan_any y w2).mono ?_
    rintro e w3 ⟨rfl, hb3⟩
    have HB := Lib.hid (hb2.trans (hb3.mono hb2.size))
    clear hb2 hb3
    go_wp2_with fail
    go_ret
    exact ⟨by simp [cmp3, h], HB.out⟩
  · by_cases h2 : y < x
    · have H1 := Lib.hid h
      have H2 := Lib.hid h2
      go_enter Try.func57, Try.ntmps57
      go_wp2_with fail
      refine (nan_any x w).mono ?_
      rintro e w2 ⟨rfl, hb2⟩
      go_wp2_with fail
      refine (nan_any y w2).mono ?_
      rintro e w3 ⟨rfl, hb3⟩
      have HB := Lib.hid (hb2.trans (hb3.mono hb2.size))
      clear hb2 hb3
      go_wp2_with fail
      go_ret
      exact ⟨by simp [cmp3, h, h2], HB.out⟩
    · have H1 := Lib.hid h
      have H2 := Lib.hid h2
      go_enter Try.func57, Try.ntmps57
      go_wp2_with fail
      refine (nan_any x w).mono ?_
      rintro e w2 ⟨rfl, hb2⟩
      go_wp2_with fail
      refine (nan_any y w2).mono ?_
      rintro e w3 ⟨rfl, hb3⟩
      have HB := Lib.hid (hb2.trans (hb3.mono hb2.size))
      clear hb2 hb3
      go_wp2_with fail
      go_ret
      exact ⟨by unfold cmp3; rw [if_neg (by have := H1.out; omega), if_neg (by have := H2.out; omega)]; rfl, HB.out⟩
theorem nans_any (x : ByteArray) (w : World) : Calls Try.prog 85 #[.string x] w fun e w' => e = .returned (.bool false) ∧ Below w.heap.size w w' := by
  have z : (x.toList != x.toList) = false := by simp
  go_enter Try.func85, Try.ntmps85
  go_wp2_with fail
  go_ret
  exact ⟨rfl, Below.refl _ _⟩
theorem cmps_any (x y : ByteArray) (w : World) : Calls Try.prog 74 #[.string x, .string y] w fun e w' => e = .returned (.int .i64 (cmpS x y)) ∧ Below w.heap.size w w' := by
  by_cases h : ltB x y = true
  · have q1 : Op.bytesLess x.toList y.toList = true := h
    go_enter Try.func74, Try.ntmps74
    go_wp2_with fail
    refine (nans_any x w).mono ?_
    rintro e w2 ⟨rfl, hb2⟩
    go_wp2_with fail
    refine (nans_any y w2).mono ?_
    rintro e w3 ⟨rfl, hb3⟩
    have HB := Lib.hid (hb2.trans (hb3.mono hb2.size))
    clear hb2 hb3
    go_wp2_with fail
    go_ret
    exact ⟨by simp [cmpS, h], HB.out⟩
  · by_cases h2 : ltB y x = true
    · have q1 : Op.bytesLess x.toList y.toList = false := by cases hb : Op.bytesLess x.toList y.toList with | false => rfl | true => exact absurd hb h
      have q2 : (x.toList == y.toList) = false := by have h3 := leq_not x y; rw [q1, h2] at h3; simpa using h3
      have H1 := Lib.hid h
      have H2 := Lib.hid h2
      go_enter Try.func74, Try.ntmps74
      go_wp2_with fail
      refine (nans_any x w).mono ?_
      rintro e w2 ⟨rfl, hb2⟩
      go_wp2_with fail
      refine (nans_any y w2).mono ?_
      rintro e w3 ⟨rfl, hb3⟩
      have HB := Lib.hid (hb2.trans (hb3.mono hb2.size))
      clear hb2 hb3
      go_wp2_with fail
      go_ret
      exact ⟨by simp [cmpS, h, h2], HB.out⟩
    · have q1 : Op.bytesLess x.toList y.toList = false := by cases hb : Op.bytesLess x.toList y.toList with | false => rfl | true => exact absurd hb h
      have q2 : (x.toList == y.toList) = true := by have h3 := leq_not x y; rw [q1, show ltB y x = false by simpa using h2] at h3; simpa using h3
      have H1 := Lib.hid h
      have H2 := Lib.hid h2
      go_enter Try.func74, Try.ntmps74
      go_wp2_with fail
      refine (nans_any x w).mono ?_
      rintro e w2 ⟨rfl, hb2⟩
      go_wp2_with fail
      refine (nans_any y w2).mono ?_
      rintro e w3 ⟨rfl, hb3⟩
      have HB := Lib.hid (hb2.trans (hb3.mono hb2.size))
      clear hb2 hb3
      go_wp2_with fail
      go_ret
      exact ⟨by unfold cmpS; rw [if_neg H1.out, if_neg H2.out]; rfl, HB.out⟩
theorem or_any {w : World} {b : Nat} {v : Nat → Int} (h : ∀ k, k < 4 → w.cell? ⟨b, k, none⟩ = some (.int .i64 (v k))) :
    Calls Try.prog 56 #[.slice (some ⟨b, 0, none⟩) 4 4] w fun e w' => e = .returned (.int .i64 (or4 v)) ∧ Below w.heap.size w w' := by
  have HV := Lib.hid h
  clear h
  go_enter Try.func56, Try.ntmps56
  go_wp2_with fail
  go_loopw [2, 5, 8] (fun s2 s5 s8 wr => ∃ k : Nat, k ≤ 4 ∧ s2 = .int .i64 0 ∧ s8 = .int .i64 (k : Int) ∧ Hid (∀ i, i < k → v i = 0) ∧ Hid (Below w.heap.size w wr) ∧ Hid (∀ k, k < 4 → wr.cell? ⟨b, k, none⟩ = some (.int .i64 (v k)))) (fun _ _ s8 _ => 4 - (intOf s8).toNat)
  case atStart => exact ⟨0, by omega, rfl, rfl, Lib.hid (fun i h => by omega), Lib.hid (Below.refl _ _), HV⟩
  case round =>
    obtain ⟨k, hk, rfl, rfl, HZ, HB, HC⟩ := hrel
    rename World => wr
    by_cases hk4 : k < 4
    · have hk4i : (k : Int) < 4 := by omega
      have ck := HC.out k hk4
      obtain ⟨u, hu⟩ : ∃ u, u = v k := ⟨_, rfl⟩
      rw [← hu] at ck
      by_cases hz : u = 0
      · subst hz
        have HU := Lib.hid hu
        clear hu
        go_wp2_with fail
        go_roundw
        case rel => exact ⟨k + 1, by omega, rfl, by go_num, Lib.hid (fun i h => by
          by_cases e : i = k
          · rw [e]; exact HU.out.symm
          · exact HZ.out i (by omega)), HB, HC⟩
        case measure => simp [intOf]; omega
      · have hz2 : (u != 0) = true := by rw [bne_iff_ne]; exact hz
        have HU := Lib.hid hu
        have hz3 := Lib.hid hz
        clear hu hz
        go_wp2_with fail
        go_ret
        refine ⟨?_, HB.out⟩
        have h := HZ.out
        have hu := HU.out
        have hz := hz3.out
        have : or4 v = u := by
          unfold or4
          rcases (by omega : k = 0 ∨ k = 1 ∨ k = 2 ∨ k = 3) with rfl | rfl | rfl | rfl
          · rw [if_pos (by rw [← hu]; exact hz), hu]
          · rw [if_neg (by simp [h 0 (by omega)]), if_pos (by rw [← hu]; exact hz), hu]
          · rw [if_neg (by simp [h 0 (by omega)]), if_neg (by simp [h 1 (by omega)]), if_pos (by rw [← hu]; exact hz), hu]
          · rw [if_neg (by simp [h 0 (by omega)]), if_neg (by simp [h 1 (by omega)]), if_neg (by simp [h 2 (by omega)]), hu]
        rw [this]; rfl
    · obtain rfl : k = 4 := by omega
      go_wp2_with fail
      go_ret
      refine ⟨?_, HB.out⟩
      have h := HZ.out
      simp [or4, h 0 (by omega), h 1 (by omega), h 2 (by omega), h 3 (by omega)]
theorem cell_blk {w : World} {B : Nat} {cur : Array Value} {t : TypeId} (g : w.heap[B]? = some (.cells cur t (0, 0))) {i : Nat} {u : Value} (h : cur[i]? = some u) : w.cell? ⟨B, i, none⟩ = some u := by rw [cell_of_row w _ _ _ _ (0, 0) g]; exact h
def CmpF (x y : EntV) (b2 b3 : Nat) : Nat → Value → World → Prop
  | 0, v, _ => v = .pointer (some ⟨b2, 1, none⟩)
  | 1, v, _ => v = .int .i64 x.win
  | 2, v, _ => v = .pointer (some ⟨b3, 1, none⟩)
  | 3, v, _ => v = .int .i64 y.win
  | 4, v, _ => v = .int .i64 (cmp3 x.win y.win)
  | 5, v, _ => v = .pointer (some ⟨b2, 2, none⟩)
  | 6, v, _ => v = .string x.part
  | 7, v, _ => v = .pointer (some ⟨b3, 2, none⟩)
  | 8, v, _ => v = .string y.part
  | 9, v, _ => v = .int .i64 (cmpS x.part y.part)
  | 10, v, _ => v = .pointer (some ⟨b2, 8, none⟩)
  | 11, v, _ => v = .int .i64 x.born
  | 12, v, _ => v = .pointer (some ⟨b3, 8, none⟩)
  | 13, v, _ => v = .int .i64 y.born
  | 14, v, _ => v = .int .i64 (cmp3 x.born y.born)
  | 15, v, _ => v = .pointer (some ⟨b2, 0, none⟩)
  | 16, v, _ => v = .string x.key
  | 17, v, _ => v = .pointer (some ⟨b3, 0, none⟩)
  | 18, v, _ => v = .string y.key
  | 19, v, _ => v = .int .i64 (cmpS x.key y.key)
  | 20, v, w => ∃ b, v = .slice (some ⟨b, 0, none⟩) 4 4 ∧ b < w.heap.size ∧ ∀ k, k < 4 → w.cell? ⟨b, k, none⟩ = some (.int .i64 ((fun k => match k with | 0 => cmp3 x.win y.win | 1 => cmpS x.part y.part | 2 => cmp3 x.born y.born | _ => cmpS x.key y.key : Nat → Int) k))
  | 21, v, _ => v = .int .i64 (cmpEnt x y)
  | 22, v, _ => v = .int .i64 (cmpEnt x y)
  | _ + 23, _, _ => True
theorem CmpF.mono {x y : EntV} {b2 b3 : Nat} {w w' : World} (ht : Below w.heap.size w w') : ∀ j v, CmpF x y b2 b3 j v w → CmpF x y b2 b3 j v w' := fun j v h =>
  match j, h with
  | 0, h => h
  | 1, h => h
  | 2, h => h
  | 3, h => h
  | 4, h => h
  | 5, h => h
  | 6, h => h
  | 7, h => h
  | 8, h => h
  | 9, h => h
  | 10, h => h
  | 11, h => h
  | 12, h => h
  | 13, h => h
  | 14, h => h
  | 15, h => h
  | 16, h => h
  | 17, h => h
  | 18, h => h
  | 19, h => h
  | 20, h => by
    obtain ⟨b, h1, h2, h3⟩ := h
    exact ⟨b, h1, Nat.lt_of_lt_of_le h2 ht.size, fun k hk => (ht.cell (p := ⟨b, k, none⟩) h2).trans (h3 k hk)⟩
  | 21, h => h
  | 22, h => h
  | _ + 23, _ => trivial

set_option maxRecDepth 100000 in
set_option maxHeartbeats 8000000 in
theorem ecompare_any (x y : EntV) (w : World) : Calls Try.prog 73 #[.agg #[.string x.key, .int .i64 x.win, .string x.part, .int .i64 x.fst, .int .i64 x.lst, .int .i64 x.rows, .int .i64 x.size, .int .u32 x.sum, .int .i64 x.born], .agg #[.string y.key, .int .i64 y.win, .string y.part, .int .i64 y.fst, .int .i64 y.lst, .int .i64 y.rows, .int .i64 y.size, .int .u32 y.sum, .int .i64 y.born]] w fun e w' => e = .returned (.int .i64 (cmpEnt x y)) ∧ Below w.heap.size w w' := by
  obtain ⟨b2, hb2⟩ : ∃ b, b = w.heap.size := ⟨_, rfl⟩
  obtain ⟨b3, hb3⟩ : ∃ b, b = w.heap.size + 1 := ⟨_, rfl⟩
  obtain ⟨w2, hw2⟩ : ∃ w2, w2 = (w.alloc (.cells #[.string x.key, .int .i64 x.win, .string x.part, .int .i64 x.fst, .int .i64 x.lst, .int .i64 x.rows, .int .i64 x.size, .int .u32 x.sum, .int .i64 x.born] 80)).alloc (.cells #[.string y.key, .int .i64 y.win, .string y.part, .int .i64 y.fst, .int .i64 y.lst, .int .i64 y.rows, .int .i64 y.size, .int .u32 y.sum, .int .i64 y.born] 80) := ⟨_, rfl⟩
  have hs1 : (w.alloc (.cells #[.string x.key, .int .i64 x.win, .string x.part, .int .i64 x.fst, .int .i64 x.lst, .int .i64 x.rows, .int .i64 x.size, .int .u32 x.sum, .int .i64 x.born] 80)).heap.size = w.heap.size + 1 := by show (w.heap.push _).size = _; rw [Array.size_push]
  have hb : Below w.heap.size w w2 := by rw [hw2]; exact ((Below.refl _ _).alloc (Nat.le_refl _) _).alloc (by omega) _
  have g2 : w2.heap[b2]? = some (.cells #[.string x.key, .int .i64 x.win, .string x.part, .int .i64 x.fst, .int .i64 x.lst, .int .i64 x.rows, .int .i64 x.size, .int .u32 x.sum, .int .i64 x.born] 80 (0, 0)) := by
    rw [hw2, hb2]
    exact (((Below.refl (w.alloc (.cells #[.string x.key, .int .i64 x.win, .string x.part, .int .i64 x.fst, .int .i64 x.lst, .int .i64 x.rows, .int .i64 x.size, .int .u32 x.sum, .int .i64 x.born] 80)).heap.size _).alloc (Nat.le_refl _) _).block w.heap.size (by omega)).trans (heap_alloc_new w _)
  have g3 : w2.heap[b3]? = some (.cells #[.string y.key, .int .i64 y.win, .string y.part, .int .i64 y.fst, .int .i64 y.lst, .int .i64 y.rows, .int .i64 y.size, .int .u32 y.sum, .int .i64 y.born] 80 (0, 0)) := by rw [hw2, hb3, ← hs1]; exact heap_alloc_new _ _
  have hl2 : b2 < w2.heap.size := (Array.getElem?_eq_some_iff.1 g2).1
  have hl3 : b3 < w2.heap.size := (Array.getElem?_eq_some_iff.1 g3).1
  have cx1 := Lib.hid (cell_blk g2 (i := 1) (u := .int .i64 x.win) rfl)
  have cx2 := Lib.hid (cell_blk g2 (i := 2) (u := .string x.part) rfl)
  have cx8 := Lib.hid (cell_blk g2 (i := 8) (u := .int .i64 x.born) rfl)
  have cx0 := Lib.hid (cell_blk g2 (i := 0) (u := .string x.key) rfl)
  have cy1 := Lib.hid (cell_blk g3 (i := 1) (u := .int .i64 y.win) rfl)
  have cy2 := Lib.hid (cell_blk g3 (i := 2) (u := .string y.part) rfl)
  have cy8 := Lib.hid (cell_blk g3 (i := 8) (u := .int .i64 y.born) rfl)
  have cy0 := Lib.hid (cell_blk g3 (i := 0) (u := .string y.key) rfl)
  have HB := Lib.hid hb
  have HB2 := Lib.hid hb2
  have HB3 := Lib.hid hb3
  have HW2 := Lib.hid hw2
  have HL2 := Lib.hid hl2
  have HL3 := Lib.hid hl3
  have HJ0 := Lib.hid (Below.refl w2.heap.size w2).drew
  clear hb hb2 hb3 hw2 hl2 hl3 hs1 g2 g3
  go_enter Try.func73, Try.ntmps73
  go_wp2_with fail
  rw [← HW2.out, ← HB3.out, ← HB2.out]
  refine wp_region_fill (by kernel_rfl) (by kernel_rfl) (by kernel_rfl) (Below w2.heap.size w2) (CmpF x y b2 b3) HJ0.out ?_ ?_
  · intro i o ho V w5 K hJ hdep hK
    have HJ := Lib.hid hJ
    have hi25 : i < 23 := (Array.getElem?_eq_some_iff.1 ho).1
    have hcs : i = 0 ∨ i = 1 ∨ i = 2 ∨ i = 3 ∨ i = 4 ∨ i = 5 ∨ i = 6 ∨ i = 7 ∨ i = 8 ∨ i = 9 ∨ i = 10 ∨ i = 11 ∨ i = 12 ∨ i = 13 ∨ i = 14 ∨ i = 15 ∨ i = 16 ∨ i = 17 ∨ i = 18 ∨ i = 19 ∨ i = 20 ∨ i = 21 ∨ i = 22 := by omega
    rcases hcs with rfl | rfl | rfl | rfl | rfl | rfl | rfl | rfl | rfl | rfl | rfl | rfl | rfl | rfl | rfl | rfl | rfl | rfl | rfl | rfl | rfl | rfl | rfl
    · obtain rfl := Option.some.inj ho.symm
      clear hdep ho hJ
      simp only [fill, slotOf, List.size_toArray, List.length_cons, List.length_nil, Nat.reduceAdd, List.getElem?_toArray, List.getElem?_cons_zero, List.getElem?_cons_succ, Option.bind_some, Act.put, List.setIfInBounds_toArray, List.set_cons_zero, List.set_cons_succ] at hK ⊢
      go_simp
      exact hK _ _ HJ.out rfl (fun j y h => h) _ rfl
    · obtain rfl := Option.some.inj ho.symm
      have h1 : V 0 = .pointer (some ⟨b2, 1, none⟩) := hdep ⟨0, .data⟩ (by simp) rfl
      have cc : w5.cell? ⟨b2, 1, none⟩ = some (.int .i64 x.win) := (hJ.cell (p := ⟨b2, 1, none⟩) HL2.out).trans cx1.out
      clear hdep ho hJ
      simp only [fill, slotOf, List.size_toArray, List.length_cons, List.length_nil, Nat.reduceAdd, List.getElem?_toArray, List.getElem?_cons_zero, List.getElem?_cons_succ, Option.bind_some, Act.put, List.setIfInBounds_toArray, List.set_cons_zero, List.set_cons_succ] at hK ⊢
      rw [h1]
      go_simp
      exact hK _ _ HJ.out rfl (fun j y h => h) _ (by rw [h1]; rfl)
    · obtain rfl := Option.some.inj ho.symm
      clear hdep ho hJ
      simp only [fill, slotOf, List.size_toArray, List.length_cons, List.length_nil, Nat.reduceAdd, List.getElem?_toArray, List.getElem?_cons_zero, List.getElem?_cons_succ, Option.bind_some, Act.put, List.setIfInBounds_toArray, List.set_cons_zero, List.set_cons_succ] at hK ⊢
      go_simp
      exact hK _ _ HJ.out rfl (fun j y h => h) _ rfl
    · obtain rfl := Option.some.inj ho.symm
      have h1 : V 2 = .pointer (some ⟨b3, 1, none⟩) := hdep ⟨2, .data⟩ (by simp) rfl
      have cc : w5.cell? ⟨b3, 1, none⟩ = some (.int .i64 y.win) := (hJ.cell (p := ⟨b3, 1, none⟩) HL3.out).trans cy1.out
      clear hdep ho hJ
      simp only [fill, slotOf, List.size_toArray, List.length_cons, List.length_nil, Nat.reduceAdd, List.getElem?_toArray, List.getElem?_cons_zero, List.getElem?_cons_succ, Option.bind_some, Act.put, List.setIfInBounds_toArray, List.set_cons_zero, List.set_cons_succ] at hK ⊢
      rw [h1]
      go_simp
      exact hK _ _ HJ.out rfl (fun j y h => h) _ (by rw [h1]; rfl)
    · obtain rfl := Option.some.inj ho.symm
      have h1 : V 1 = .int .i64 x.win := hdep ⟨1, .data⟩ (by simp) rfl
      have h2 : V 3 = .int .i64 y.win := hdep ⟨3, .data⟩ (by simp) rfl
      clear hdep ho hJ
      simp only [fill, slotOf, List.size_toArray, List.length_cons, List.length_nil, Nat.reduceAdd, List.getElem?_toArray, List.getElem?_cons_zero, List.getElem?_cons_succ, Option.bind_some, Act.put, List.setIfInBounds_toArray, List.set_cons_zero, List.set_cons_succ] at hK ⊢
      rw [h1, h2]
      go_simp
      refine (cmp_any x.win y.win _).mono ?_
      rintro e w6 ⟨rfl, hb6⟩
      exact hK _ _ (HJ.out.trans (hb6.mono HJ.out.size)) rfl (CmpF.mono hb6) _ (by rw [h1, h2]; rfl)
    · obtain rfl := Option.some.inj ho.symm
      clear hdep ho hJ
      simp only [fill, slotOf, List.size_toArray, List.length_cons, List.length_nil, Nat.reduceAdd, List.getElem?_toArray, List.getElem?_cons_zero, List.getElem?_cons_succ, Option.bind_some, Act.put, List.setIfInBounds_toArray, List.set_cons_zero, List.set_cons_succ] at hK ⊢
      go_simp
      exact hK _ _ HJ.out rfl (fun j y h => h) _ rfl
    · obtain rfl := Option.some.inj ho.symm
      have h1 : V 5 = .pointer (some ⟨b2, 2, none⟩) := hdep ⟨5, .data⟩ (by simp) rfl
      have cc : w5.cell? ⟨b2, 2, none⟩ = some (.string x.part) := (hJ.cell (p := ⟨b2, 2, none⟩) HL2.out).trans cx2.out
      clear hdep ho hJ
      simp only [fill, slotOf, List.size_toArray, List.length_cons, List.length_nil, Nat.reduceAdd, List.getElem?_toArray, List.getElem?_cons_zero, List.getElem?_cons_succ, Option.bind_some, Act.put, List.setIfInBounds_toArray, List.set_cons_zero, List.set_cons_succ] at hK ⊢
      rw [h1]
      go_simp
      exact hK _ _ HJ.out rfl (fun j y h => h) _ (by rw [h1]; rfl)
    · obtain rfl := Option.some.inj ho.symm
      clear hdep ho hJ
      simp only [fill, slotOf, List.size_toArray, List.length_cons, List.length_nil, Nat.reduceAdd, List.getElem?_toArray, List.getElem?_cons_zero, List.getElem?_cons_succ, Option.bind_some, Act.put, List.setIfInBounds_toArray, List.set_cons_zero, List.set_cons_succ] at hK ⊢
      go_simp
      exact hK _ _ HJ.out rfl (fun j y h => h) _ rfl
    · obtain rfl := Option.some.inj ho.symm
      have h1 : V 7 = .pointer (some ⟨b3, 2, none⟩) := hdep ⟨7, .data⟩ (by simp) rfl
      have cc : w5.cell? ⟨b3, 2, none⟩ = some (.string y.part) := (hJ.cell (p := ⟨b3, 2, none⟩) HL3.out).trans cy2.out
      clear hdep ho hJ
      simp only [fill, slotOf, List.size_toArray, List.length_cons, List.length_nil, Nat.reduceAdd, List.getElem?_toArray, List.getElem?_cons_zero, List.getElem?_cons_succ, Option.bind_some, Act.put, List.setIfInBounds_toArray, List.set_cons_zero, List.set_cons_succ] at hK ⊢
      rw [h1]
      go_simp
      exact hK _ _ HJ.out rfl (fun j y h => h) _ (by rw [h1]; rfl)
    · obtain rfl := Option.some.inj ho.symm
      have h1 : V 6 = .string x.part := hdep ⟨6, .data⟩ (by simp) rfl
      have h2 : V 8 = .string y.part := hdep ⟨8, .data⟩ (by simp) rfl
      clear hdep ho hJ
      simp only [fill, slotOf, List.size_toArray, List.length_cons, List.length_nil, Nat.reduceAdd, List.getElem?_toArray, List.getElem?_cons_zero, List.getElem?_cons_succ, Option.bind_some, Act.put, List.setIfInBounds_toArray, List.set_cons_zero, List.set_cons_succ] at hK ⊢
      rw [h1, h2]
      go_simp
      refine (cmps_any x.part y.part _).mono ?_
      rintro e w6 ⟨rfl, hb6⟩
      exact hK _ _ (HJ.out.trans (hb6.mono HJ.out.size)) rfl (CmpF.mono hb6) _ (by rw [h1, h2]; rfl)
    · obtain rfl := Option.some.inj ho.symm
      clear hdep ho hJ
      simp only [fill, slotOf, List.size_toArray, List.length_cons, List.length_nil, Nat.reduceAdd, List.getElem?_toArray, List.getElem?_cons_zero, List.getElem?_cons_succ, Option.bind_some, Act.put, List.setIfInBounds_toArray, List.set_cons_zero, List.set_cons_succ] at hK ⊢
      go_simp
      exact hK _ _ HJ.out rfl (fun j y h => h) _ rfl
    · obtain rfl := Option.some.inj ho.symm
      have h1 : V 10 = .pointer (some ⟨b2, 8, none⟩) := hdep ⟨10, .data⟩ (by simp) rfl
      have cc : w5.cell? ⟨b2, 8, none⟩ = some (.int .i64 x.born) := (hJ.cell (p := ⟨b2, 8, none⟩) HL2.out).trans cx8.out
      clear hdep ho hJ
      simp only [fill, slotOf, List.size_toArray, List.length_cons, List.length_nil, Nat.reduceAdd, List.getElem?_toArray, List.getElem?_cons_zero, List.getElem?_cons_succ, Option.bind_some, Act.put, List.setIfInBounds_toArray, List.set_cons_zero, List.set_cons_succ] at hK ⊢
      rw [h1]
      go_simp
      exact hK _ _ HJ.out rfl (fun j y h => h) _ (by rw [h1]; rfl)
    · obtain rfl := Option.some.inj ho.symm
      clear hdep ho hJ
      simp only [fill, slotOf, List.size_toArray, List.length_cons, List.length_nil, Nat.reduceAdd, List.getElem?_toArray, List.getElem?_cons_zero, List.getElem?_cons_succ, Option.bind_some, Act.put, List.setIfInBounds_toArray, List.set_cons_zero, List.set_cons_succ] at hK ⊢
      go_simp
      exact hK _ _ HJ.out rfl (fun j y h => h) _ rfl
    · obtain rfl := Option.some.inj ho.symm
      have h1 : V 12 = .pointer (some ⟨b3, 8, none⟩) := hdep ⟨12, .data⟩ (by simp) rfl
      have cc : w5.cell? ⟨b3, 8, none⟩ = some (.int .i64 y.born) := (hJ.cell (p := ⟨b3, 8, none⟩) HL3.out).trans cy8.out
      clear hdep ho hJ
      simp only [fill, slotOf, List.size_toArray, List.length_cons, List.length_nil, Nat.reduceAdd, List.getElem?_toArray, List.getElem?_cons_zero, List.getElem?_cons_succ, Option.bind_some, Act.put, List.setIfInBounds_toArray, List.set_cons_zero, List.set_cons_succ] at hK ⊢
      rw [h1]
      go_simp
      exact hK _ _ HJ.out rfl (fun j y h => h) _ (by rw [h1]; rfl)
    · obtain rfl := Option.some.inj ho.symm
      have h1 : V 11 = .int .i64 x.born := hdep ⟨11, .data⟩ (by simp) rfl
      have h2 : V 13 = .int .i64 y.born := hdep ⟨13, .data⟩ (by simp) rfl
      clear hdep ho hJ
      simp only [fill, slotOf, List.size_toArray, List.length_cons, List.length_nil, Nat.reduceAdd, List.getElem?_toArray, List.getElem?_cons_zero, List.getElem?_cons_succ, Option.bind_some, Act.put, List.setIfInBounds_toArray, List.set_cons_zero, List.set_cons_succ] at hK ⊢
      rw [h1, h2]
      go_simp
      refine (cmp_any x.born y.born _).mono ?_
      rintro e w6 ⟨rfl, hb6⟩
      exact hK _ _ (HJ.out.trans (hb6.mono HJ.out.size)) rfl (CmpF.mono hb6) _ (by rw [h1, h2]; rfl)
    · obtain rfl := Option.some.inj ho.symm
      clear hdep ho hJ
      simp only [fill, slotOf, List.size_toArray, List.length_cons, List.length_nil, Nat.reduceAdd, List.getElem?_toArray, List.getElem?_cons_zero, List.getElem?_cons_succ, Option.bind_some, Act.put, List.setIfInBounds_toArray, List.set_cons_zero, List.set_cons_succ] at hK ⊢
      go_simp
      exact hK _ _ HJ.out rfl (fun j y h => h) _ rfl
    · obtain rfl := Option.some.inj ho.symm
      have h1 : V 15 = .pointer (some ⟨b2, 0, none⟩) := hdep ⟨15, .data⟩ (by simp) rfl
      have cc : w5.cell? ⟨b2, 0, none⟩ = some (.string x.key) := (hJ.cell (p := ⟨b2, 0, none⟩) HL2.out).trans cx0.out
      clear hdep ho hJ
      simp only [fill, slotOf, List.size_toArray, List.length_cons, List.length_nil, Nat.reduceAdd, List.getElem?_toArray, List.getElem?_cons_zero, List.getElem?_cons_succ, Option.bind_some, Act.put, List.setIfInBounds_toArray, List.set_cons_zero, List.set_cons_succ] at hK ⊢
      rw [h1]
      go_simp
      exact hK _ _ HJ.out rfl (fun j y h => h) _ (by rw [h1]; rfl)
    · obtain rfl := Option.some.inj ho.symm
      clear hdep ho hJ
      simp only [fill, slotOf, List.size_toArray, List.length_cons, List.length_nil, Nat.reduceAdd, List.getElem?_toArray, List.getElem?_cons_zero, List.getElem?_cons_succ, Option.bind_some, Act.put, List.setIfInBounds_toArray, List.set_cons_zero, List.set_cons_succ] at hK ⊢
      go_simp
      exact hK _ _ HJ.out rfl (fun j y h => h) _ rfl
    · obtain rfl := Option.some.inj ho.symm
      have h1 : V 17 = .pointer (some ⟨b3, 0, none⟩) := hdep ⟨17, .data⟩ (by simp) rfl
      have cc : w5.cell? ⟨b3, 0, none⟩ = some (.string y.key) := (hJ.cell (p := ⟨b3, 0, none⟩) HL3.out).trans cy0.out
      clear hdep ho hJ
      simp only [fill, slotOf, List.size_toArray, List.length_cons, List.length_nil, Nat.reduceAdd, List.getElem?_toArray, List.getElem?_cons_zero, List.getElem?_cons_succ, Option.bind_some, Act.put, List.setIfInBounds_toArray, List.set_cons_zero, List.set_cons_succ] at hK ⊢
      rw [h1]
      go_simp
      exact hK _ _ HJ.out rfl (fun j y h => h) _ (by rw [h1]; rfl)
    · obtain rfl := Option.some.inj ho.symm
      have h1 : V 16 = .string x.key := hdep ⟨16, .data⟩ (by simp) rfl
      have h2 : V 18 = .string y.key := hdep ⟨18, .data⟩ (by simp) rfl
      clear hdep ho hJ
      simp only [fill, slotOf, List.size_toArray, List.length_cons, List.length_nil, Nat.reduceAdd, List.getElem?_toArray, List.getElem?_cons_zero, List.getElem?_cons_succ, Option.bind_some, Act.put, List.setIfInBounds_toArray, List.set_cons_zero, List.set_cons_succ] at hK ⊢
      rw [h1, h2]
      go_simp
      refine (cmps_any x.key y.key _).mono ?_
      rintro e w6 ⟨rfl, hb6⟩
      exact hK _ _ (HJ.out.trans (hb6.mono HJ.out.size)) rfl (CmpF.mono hb6) _ (by rw [h1, h2]; rfl)
    · obtain rfl := Option.some.inj ho.symm
      have h0 : V 4 = .int .i64 (cmp3 x.win y.win) := hdep ⟨4, .data⟩ (by simp) rfl
      have h1 : V 9 = .int .i64 (cmpS x.part y.part) := hdep ⟨9, .data⟩ (by simp) rfl
      have h2 : V 14 = .int .i64 (cmp3 x.born y.born) := hdep ⟨14, .data⟩ (by simp) rfl
      have h3 : V 19 = .int .i64 (cmpS x.key y.key) := hdep ⟨19, .data⟩ (by simp) rfl
      clear hdep ho hJ
      simp only [fill, slotOf, List.size_toArray, List.length_cons, List.length_nil, Nat.reduceAdd, List.getElem?_toArray, List.getElem?_cons_zero, List.getElem?_cons_succ, Option.bind_some, Act.put, List.setIfInBounds_toArray, List.set_cons_zero, List.set_cons_succ] at hK ⊢
      rw [h0, h1, h2, h3]
      go_simp
      have HA := Lib.hid ((Below.refl w5.heap.size w5).alloc (Nat.le_refl _) (.cells #[.int .i64 (cmp3 x.win y.win), .int .i64 (cmpS x.part y.part), .int .i64 (cmp3 x.born y.born), .int .i64 (cmpS x.key y.key)] 3))
      have HG := Lib.hid (heap_alloc_new w5 (.cells #[.int .i64 (cmp3 x.win y.win), .int .i64 (cmpS x.part y.part), .int .i64 (cmp3 x.born y.born), .int .i64 (cmpS x.key y.key)] 3))
      refine hK _ _ (HJ.out.trans (HA.out.mono HJ.out.size)) ⟨w5.heap.size, rfl, (Array.getElem?_eq_some_iff.1 HG.out).1, fun k hk => ?_⟩ (CmpF.mono HA.out) _ (by rw [h0, h1, h2, h3]; rfl)
      rcases (by omega : k = 0 ∨ k = 1 ∨ k = 2 ∨ k = 3) with rfl | rfl | rfl | rfl
      all_goals exact cell_blk HG.out rfl
    · obtain rfl := Option.some.inj ho.symm
      obtain ⟨b, h1, h2, h3⟩ : CmpF x y b2 b3 20 (V 20) w5 := hdep ⟨20, .data⟩ (by simp) rfl
      have HO := Lib.hid (or_any (v := fun k => match k with | 0 => cmp3 x.win y.win | 1 => cmpS x.part y.part | 2 => cmp3 x.born y.born | _ => cmpS x.key y.key) h3)
      clear hdep ho hJ h2 h3
      simp only [fill, slotOf, List.size_toArray, List.length_cons, List.length_nil, Nat.reduceAdd, List.getElem?_toArray, List.getElem?_cons_zero, List.getElem?_cons_succ, Option.bind_some, Act.put, List.setIfInBounds_toArray, List.set_cons_zero, List.set_cons_succ] at hK ⊢
      rw [h1]
      go_simp
      refine HO.out.mono ?_
      rintro e w6 ⟨rfl, hb6⟩
      exact hK _ _ (HJ.out.trans (hb6.mono HJ.out.size)) rfl (CmpF.mono hb6) _ (by rw [h1]; rfl)
    · obtain rfl := Option.some.inj ho.symm
      have h1 : V 21 = .int .i64 (cmpEnt x y) := hdep ⟨21, .data⟩ (by simp) rfl
      clear hdep ho hJ
      simp only [fill, slotOf, List.size_toArray, List.length_cons, List.length_nil, Nat.reduceAdd, List.getElem?_toArray, List.getElem?_cons_zero, List.getElem?_cons_succ, Option.bind_some, Act.put, List.setIfInBounds_toArray, List.set_cons_zero, List.set_cons_succ] at hK ⊢
      rw [h1]
      go_simp
      exact hK _ _ HJ.out rfl (fun j y h => h) _ (by rw [h1]; rfl)
  · intro V w5 hJ hall
    have h24 : V 22 = .int .i64 (cmpEnt x y) := hall 22 (by decide)
    have HB5 := Lib.hid (HB.out.trans (hJ.mono HB.out.size))
    clear hall hJ
    simp only [fill, slotOf, List.size_toArray, List.length_cons, List.length_nil, Nat.reduceAdd, List.getElem?_toArray, List.getElem?_cons_zero, List.getElem?_cons_succ, Option.bind_some, Act.put, List.setIfInBounds_toArray, List.set_cons_zero, List.set_cons_succ]
    rw [h24]
    go_wp2_with fail
    go_ret
    exact ⟨rfl, HB5.out⟩
end Go.Proofs.Ytpcgjladooijmaa.E
