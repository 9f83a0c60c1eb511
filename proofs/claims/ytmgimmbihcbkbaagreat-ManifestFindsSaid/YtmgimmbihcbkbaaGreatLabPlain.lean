/- Labels, plainly: names, sets, what is asked of them. No Go in sight. -/
import Derived.WalkKit
namespace Go.Proofs.YtmgimmbihcbkbaaGreat.LabPlain
open Go
set_option linter.unusedVariables false

/-- a text's byte -/
def at_ (s : ByteArray) (i : Nat) : Nat := (s.data.toList.getD i 0).toNat
theorem at_get (s : ByteArray) (i : Nat) (h : i < s.size) : at_ s i = (s[i]'h).toNat := by
  unfold at_
  have h2 : i < s.data.toList.length := by simpa using h
  rw [List.getD_eq_getElem?_getD, List.getElem?_eq_getElem h2]
  rfl
theorem at_lt (s : ByteArray) (i : Nat) : at_ s i < 256 := UInt8.toNat_lt _
/-- is it a small letter; may it stand in a name? -/
def isL (c : Nat) : Bool := decide (97 ≤ c) && decide (c ≤ 122)
def okC (c : Nat) : Bool := isL c || decide (c = 95) || (decide (48 ≤ c) && decide (c ≤ 57))
/-- are the first k bytes such? -/
def allC (s : ByteArray) : Nat → Bool
  | 0 => true
  | k + 1 => allC s k && okC (at_ s k)
theorem allC_no {s : ByteArray} {k : Nat} (h : okC (at_ s k) = false) : ∀ d, allC s (k + 1 + d) = false
  | 0 => by simp [allC, h]
  | d + 1 => by rw [← Nat.add_assoc, allC, allC_no h d]; rfl
/-- a name -/
def isNm (s : ByteArray) : Bool := decide (1 ≤ s.size) && decide (s.size ≤ 8) && isL (at_ s 0) && allC s s.size

/-- one text ahead of another one -/
def ltB (a b : ByteArray) : Bool := Op.bytesLess a.toList b.toList
theorem bl_irrefl : ∀ a : List UInt8, Op.bytesLess a a = false
  | [] => rfl
  | a :: x => by simp [Op.bytesLess, bl_irrefl x]
theorem bl_trans : ∀ a b c : List UInt8, Op.bytesLess a b = true → Op.bytesLess b c = true → Op.bytesLess a c = true
  | a, b, [], _, h2 => by cases b <;> simp [Op.bytesLess] at h2
  | a, [], c :: z, h1, _ => by cases a <;> simp [Op.bytesLess] at h1
  | [], b :: y, c :: z, _, _ => rfl
  | a :: x, b :: y, c :: z, h1, h2 => by
    simp only [Op.bytesLess, Bool.or_eq_true, decide_eq_true_eq, Bool.and_eq_true, beq_iff_eq] at h1 h2 ⊢
    rcases h1 with h1 | ⟨h1, h1'⟩
    · rcases h2 with h2 | ⟨h2, _⟩
      · exact .inl (UInt8.lt_trans h1 h2)
      · subst h2; exact .inl h1
    · subst h1
      rcases h2 with h2 | ⟨h2, h2'⟩
      · exact .inl h2
      · subst h2
        exact .inr ⟨rfl, bl_trans x y z h1' h2'⟩
theorem bl_total : ∀ a b : List UInt8, a ≠ b → Op.bytesLess a b = false → Op.bytesLess b a = true
  | [], [], h, _ => absurd rfl h
  | [], b :: y, _, h => by simp [Op.bytesLess] at h
  | a :: x, [], _, _ => rfl
  | a :: x, b :: y, hne, h => by
    simp only [Op.bytesLess, Bool.or_eq_false_iff, decide_eq_false_iff_not, Bool.and_eq_false_imp, beq_iff_eq] at h
    simp only [Op.bytesLess, Bool.or_eq_true, decide_eq_true_eq, Bool.and_eq_true, beq_iff_eq]
    by_cases e : a = b
    · subst e
      exact .inr ⟨rfl, bl_total x y (fun e => hne (by rw [e])) (h.2 rfl)⟩
    · refine .inl ?_
      have h1 := h.1
      rw [UInt8.not_lt] at h1
      rcases UInt8.lt_or_eq_of_le h1 with g | g
      · exact g
      · exact absurd g.symm e
theorem leq_not (a b : ByteArray) : (Op.bytesLess a.toList b.toList || a.toList == b.toList) = !ltB b a := by
  unfold ltB
  cases h : Op.bytesLess b.toList a.toList with
  | true =>
    rw [Bool.not_true, Bool.or_eq_false_iff]
    refine ⟨?_, ?_⟩
    · cases h2 : Op.bytesLess a.toList b.toList with
      | false => rfl
      | true => have := bl_trans _ _ _ h2 h; rw [bl_irrefl] at this; cases this
    · rw [beq_eq_false_iff_ne]; intro e; rw [e, bl_irrefl] at h; cases h
  | false =>
    rw [Bool.not_false]
    by_cases e : a.toList = b.toList
    · rw [e]; simp
    · rw [bl_total _ _ (fun e2 => e e2.symm) h]; rfl
theorem ltB_irrefl (a : ByteArray) : ltB a a = false := bl_irrefl _
theorem ltB_trans {a b c : ByteArray} (h1 : ltB a b = true) (h2 : ltB b c = true) : ltB a c = true := bl_trans _ _ _ h1 h2
theorem toList_inj {a b : ByteArray} (h : a.toList = b.toList) : a = b := by
  rw [ByteArray.toList_eq, ByteArray.toList_eq] at h
  cases a; cases b
  simpa using h
theorem eq_toList (a b : ByteArray) : (a.toList == b.toList) = decide (a = b) := by
  rw [Bool.eq_iff_iff, beq_iff_eq, decide_eq_true_eq]
  exact ⟨toList_inj, fun h => by rw [h]⟩

/-- a label: a name and a value -/
abbrev Lab := ByteArray × ByteArray
def lab0 : Lab := (ByteArray.empty, ByteArray.empty)
/-- are the first k right, each behind the one ahead of it? -/
def upTo (l : List Lab) : Nat → Bool
  | 0 => true
  | k + 1 => upTo l k && (isNm (l.getD k lab0).1 && decide ((l.getD k lab0).2.size ≤ 16) && (decide (k = 0) || ltB (l.getD (k - 1) lab0).1 (l.getD k lab0).1))
/-- a label set -/
def isSet (l : List Lab) : Bool := decide (l.length ≤ 4) && upTo l l.length
theorem upTo_no {l : List Lab} {k : Nat} (h : (isNm (l.getD k lab0).1 && decide ((l.getD k lab0).2.size ≤ 16) && (decide (k = 0) || ltB (l.getD (k - 1) lab0).1 (l.getD k lab0).1)) = false) : ∀ d, upTo l (k + 1 + d) = false
  | 0 => by rw [upTo, h, Bool.and_false]
  | d + 1 => by rw [← Nat.add_assoc, upTo, upTo_no h d]; rfl
theorem upTo_le {l : List Lab} {k : Nat} (h : upTo l k = true) {j : Nat} (hj : j < k) : isNm (l.getD j lab0).1 = true ∧ (l.getD j lab0).2.size ≤ 16 ∧ (j = 0 ∨ ltB (l.getD (j - 1) lab0).1 (l.getD j lab0).1 = true) := by
  obtain ⟨d, rfl⟩ : ∃ d, k = j + 1 + d := ⟨k - (j + 1), by omega⟩
  cases hc : (isNm (l.getD j lab0).1 && decide ((l.getD j lab0).2.size ≤ 16) && (decide (j = 0) || ltB (l.getD (j - 1) lab0).1 (l.getD j lab0).1)) with
  | false => rw [upTo_no hc d] at h; cases h
  | true => simpa [Bool.and_assoc] using hc
/-- names rise all along -/
theorem upTo_lt {l : List Lab} {k : Nat} (h : upTo l k = true) : ∀ d i, i + 1 + d < k → ltB (l.getD i lab0).1 (l.getD (i + 1 + d) lab0).1 = true
  | 0, i, hi => by
    rcases (upTo_le h (j := i + 1) (by omega)).2.2 with g | g
    · omega
    · exact g
  | d + 1, i, hi => by
    rcases (upTo_le h (j := i + 1 + (d + 1)) (by omega)).2.2 with g | g
    · omega
    · exact ltB_trans (upTo_lt h d i (by omega)) g
end Go.Proofs.YtmgimmbihcbkbaaGreat.LabPlain
