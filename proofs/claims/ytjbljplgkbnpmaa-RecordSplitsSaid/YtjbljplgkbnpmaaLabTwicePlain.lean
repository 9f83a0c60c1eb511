/- Parting labels twice, plainly; the part of a set is a set. -/
import Derived.Test.YtjbljplgkbnpmaaLabStrs
namespace Go.Proofs.Ytjbljplgkbnpmaa
open LabPlain
set_option linter.unusedVariables false

theorem memB_iff (ss : List ByteArray) (z : ByteArray) : memB ss z = true ↔ z ∈ ss := by
  unfold memB
  rw [List.any_eq_true]
  exact ⟨fun ⟨y, hy, h⟩ => by rw [← of_decide_eq_true h]; exact hy, fun h => ⟨z, h, decide_eq_true rfl⟩⟩
theorem mem_getD (ss : List ByteArray) (z : ByteArray) : z ∈ ss ↔ ∃ i, i < ss.length ∧ z = ss.getD i ByteArray.empty := by
  constructor
  · intro h
    obtain ⟨i, hi, rfl⟩ := List.getElem_of_mem h
    exact ⟨i, hi, by simp [hi]⟩
  · rintro ⟨i, hi, rfl⟩
    have : ss.getD i ByteArray.empty = ss[i] := by simp [hi]
    rw [this]; exact List.getElem_mem hi
def inTo (x : ByteArray) (bs : List ByteArray) : Nat → List ByteArray
  | 0 => []
  | j + 1 => inTo x bs j ++ (if x = bs.getD j ByteArray.empty then [x] else [])
def outTo (us bs : List ByteArray) : Nat → List ByteArray
  | 0 => []
  | i + 1 => outTo us bs i ++ inTo (us.getD i ByteArray.empty) bs bs.length
theorem inTo_len (x : ByteArray) (bs : List ByteArray) : ∀ j, (inTo x bs j).length ≤ j
  | 0 => Nat.le_refl _
  | j + 1 => by
    have := inTo_len x bs j
    rw [inTo, List.length_append]
    split <;> simp <;> omega
theorem outTo_len (us bs : List ByteArray) : ∀ i, (outTo us bs i).length ≤ bs.length * i
  | 0 => Nat.le_refl _
  | i + 1 => by
    have := outTo_len us bs i
    have h2 := inTo_len (us.getD i ByteArray.empty) bs bs.length
    rw [outTo, List.length_append, Nat.mul_succ]; omega
theorem in_mem (x z : ByteArray) (bs : List ByteArray) : ∀ j, z ∈ inTo x bs j ↔ z = x ∧ ∃ i, i < j ∧ x = bs.getD i ByteArray.empty
  | 0 => ⟨fun h => (by cases h), fun ⟨_, i, hi, _⟩ => absurd hi (Nat.not_lt_zero _)⟩
  | j + 1 => by
    rw [inTo, List.mem_append, in_mem x z bs j]
    constructor
    · rintro (⟨rfl, i, hi, he⟩ | h)
      · exact ⟨rfl, i, by omega, he⟩
      · split at h
        · rename_i he; rw [List.mem_singleton] at h; exact ⟨h, j, by omega, he⟩
        · cases h
    · rintro ⟨rfl, i, hi, he⟩
      rcases Nat.lt_or_ge i j with g | g
      · exact .inl ⟨rfl, i, g, he⟩
      · obtain rfl : i = j := by omega
        right; rw [if_pos he]; exact List.mem_singleton.2 rfl
theorem out_mem (z : ByteArray) (us bs : List ByteArray) : ∀ i, z ∈ outTo us bs i ↔ ∃ k, k < i ∧ z ∈ inTo (us.getD k ByteArray.empty) bs bs.length
  | 0 => ⟨fun h => (by cases h), fun ⟨i, hi, _⟩ => absurd hi (Nat.not_lt_zero _)⟩
  | i + 1 => by
    rw [outTo, List.mem_append, out_mem z us bs i]
    constructor
    · rintro (⟨k, hk, he⟩ | h)
      · exact ⟨k, by omega, he⟩
      · exact ⟨i, by omega, h⟩
    · rintro ⟨k, hk, he⟩
      rcases Nat.lt_or_ge k i with g | g
      · exact .inl ⟨k, g, he⟩
      · obtain rfl : k = i := by omega
        exact .inr he
theorem both_mem (us bs : List ByteArray) (z : ByteArray) : memB (outTo us bs us.length) z = (memB us z && memB bs z) := by
  rw [Bool.eq_iff_iff, Bool.and_eq_true, memB_iff, memB_iff, memB_iff, out_mem]
  constructor
  · rintro ⟨k, hk, h⟩
    obtain ⟨h1, i, hi, h2⟩ := (in_mem _ _ _ _).1 h
    exact ⟨(mem_getD _ _).2 ⟨k, hk, h1⟩, (mem_getD _ _).2 ⟨i, hi, by rw [h1]; exact h2⟩⟩
  · rintro ⟨h1, h2⟩
    obtain ⟨k, hk, h1⟩ := (mem_getD _ _).1 h1
    obtain ⟨i, hi, h2⟩ := (mem_getD _ _).1 h2
    exact ⟨k, hk, (in_mem _ _ _ _).2 ⟨h1, i, hi, by rw [← h1]; exact h2⟩⟩
theorem partTo_filter (l : List Lab) (ss : List ByteArray) : ∀ k, k ≤ l.length → partTo l ss k = (l.take k).filter (fun x => memB ss x.1)
  | 0, _ => by simp [partTo]
  | k + 1, hk => by
    have hg : l.getD k lab0 = l[k]'hk := by simp [show k < l.length from hk]
    rw [partTo, partTo_filter l ss k (by omega), List.take_succ_eq_append_getElem hk, List.filter_append, hg]
    congr 1
    cases h : memB ss (l[k]'hk).1 <;> simp [h]
theorem part_filter (l : List Lab) (ss : List ByteArray) : partTo l ss l.length = l.filter (fun x => memB ss x.1) := by
  rw [partTo_filter l ss _ (Nat.le_refl _), List.take_length]
theorem part_twice (l : List Lab) (us bs : List ByteArray) : partTo (partTo l us l.length) bs (partTo l us l.length).length = partTo l (outTo us bs us.length) l.length := by
  rw [part_filter, part_filter, part_filter, List.filter_filter]
  congr 1
  funext x
  rw [both_mem, Bool.and_comm]
theorem isSet_iff (l : List Lab) : isSet l = true ↔ l.length ≤ 4 ∧ (∀ x ∈ l, isNm x.1 = true ∧ x.2.size ≤ 16) ∧ l.Pairwise (fun x y => ltB x.1 y.1 = true) := by
  unfold isSet
  rw [Bool.and_eq_true, decide_eq_true_eq]
  constructor
  · rintro ⟨h4, h⟩
    refine ⟨h4, fun x hx => ?_, ?_⟩
    · obtain ⟨i, hi, rfl⟩ := List.getElem_of_mem hx
      have := upTo_le h hi
      rw [show l.getD i lab0 = l[i] by simp [hi]] at this
      exact ⟨this.1, this.2.1⟩
    · rw [List.pairwise_iff_getElem]
      intro i j hi hj hij
      have := upTo_lt h (j - (i + 1)) i (by omega)
      rw [show i + 1 + (j - (i + 1)) = j from by omega, show l.getD i lab0 = l[i] by simp [hi], show l.getD j lab0 = l[j] by simp [hj]] at this
      exact this
  · rintro ⟨h4, h1, h2⟩
    refine ⟨h4, ?_⟩
    have : ∀ k, k ≤ l.length → upTo l k = true := by
      intro k
      induction k with
      | zero => intro _; rfl
      | succ k ih =>
        intro hk
        have hm := h1 _ (List.getElem_mem (show k < l.length from hk))
        rw [upTo, ih (by omega), show l.getD k lab0 = l[k]'hk by simp [show k < l.length from hk], hm.1, decide_eq_true hm.2]
        rcases Nat.eq_zero_or_pos k with g | g
        · subst g; rfl
        · have := (List.pairwise_iff_getElem.1 h2) (k - 1) k (by omega) hk (by omega)
          rw [show l.getD (k - 1) lab0 = l[k - 1]'(by omega) by simp [show k - 1 < l.length by omega], this]; simp
    exact this _ (Nat.le_refl _)
theorem part_set {l : List Lab} (h : isSet l = true) (ss : List ByteArray) : isSet (partTo l ss l.length) = true := by
  rw [part_filter]
  obtain ⟨h4, h1, h2⟩ := (isSet_iff l).1 h
  exact (isSet_iff _).2 ⟨Nat.le_trans (List.length_filter_le _ _) h4, fun x hx => h1 x (List.mem_filter.1 hx).1, h2.filter _⟩
end Go.Proofs.Ytjbljplgkbnpmaa
