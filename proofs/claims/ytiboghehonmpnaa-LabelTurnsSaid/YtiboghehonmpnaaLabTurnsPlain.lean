/- LabelTurns, plainly: what the five matchers say of a set. -/
import Derived.Test.YtiboghehonmpnaaLabMeet3
import Derived.Lib.Strings
namespace Go.Proofs.Ytiboghehonmpnaa
open Go.RowKit LabPlain
set_option linter.unusedVariables false

def mq (nm v u : ByteArray) : Nat → Mat
  | 0 => (nm, 1, v)
  | 1 => (nm, 2, v)
  | 2 => (nm, 3, v)
  | 3 => (nm, 3, u)
  | _ => (nm, 4, { data := #[] })
theorem prefB_iff (v x : ByteArray) : prefB v x = true ↔ v.size ≤ x.size ∧ x.data.toList.take v.size = v.data.toList := by
  unfold prefB
  rw [Bool.and_eq_true, decide_eq_true_eq, beq_iff_eq, Lib.extract_toList, Lib.toList_data]
  simp
theorem prefB_self (v : ByteArray) : prefB v v = true := by
  rw [prefB_iff]
  exact ⟨Nat.le_refl _, List.take_of_length_le (by rw [← Lib.size_eq]; exact Nat.le_refl _)⟩
theorem prefB_cut {v x : ByteArray} (h : prefB v x = true) (k : Nat) : prefB (v.extract 0 k) x = true := by
  rw [prefB_iff] at h ⊢
  have hd : (v.extract 0 k).data.toList = v.data.toList.take k := by rw [Lib.extract_data]; simp
  have hs : (v.extract 0 k).size = min k v.size := by rw [Lib.size_eq, hd, List.length_take, ← Lib.size_eq]
  refine ⟨by omega, ?_⟩
  rw [hd, hs, ← h.2, List.take_take]
theorem one_meets {l : List Lab} (hs : isSet l = true) {m : Mat} (ha : asksB m = true) : meetsB l [m] = meet1 (lst l m.1 l.length) m.2.1 m.2.2 := by
  unfold meetsB
  rw [hs, Bool.true_and]
  show (true && (asksB m && meet1 (lst l m.1 l.length) m.2.1 m.2.2)) = _
  rw [ha, Bool.true_and, Bool.true_and]
theorem two_meets {l : List Lab} (hs : isSet l = true) {m m' : Mat} (ha : asksB m = true) (ha' : asksB m' = true) : meetsB l [m, m'] = (meetsB l [m] && meetsB l [m']) := by
  rw [one_meets hs ha, one_meets hs ha']
  unfold meetsB
  rw [hs, Bool.true_and]
  show ((true && (asksB m && meet1 (lst l m.1 l.length) m.2.1 m.2.2)) && (asksB m' && meet1 (lst l m'.1 l.length) m'.2.1 m'.2.2)) = _
  rw [ha, ha', Bool.true_and, Bool.true_and, Bool.true_and]
theorem turns_facts (l : List Lab) (nm v u : ByteArray) (way : Int) (k : Nat) (hs : isSet l = true) (ha : asksB (nm, way, v) = true) (hu : u = v.extract 0 k) : ∃ b0 b1 b2 b3 b4 : Bool, meetsB l [mq nm v u 0] = b0 ∧ meetsB l [mq nm v u 1] = b1 ∧ meetsB l [mq nm v u 2] = b2 ∧ meetsB l [mq nm v u 3] = b3 ∧ meetsB l [mq nm v u 4] = b4 ∧ (b0 != b1) = true ∧ (b0 = true → b2 = true) ∧ (b2 = true → b3 = true) ∧ (b3 = true → b4 = true) ∧ meetsB l [mq nm v u 0, mq nm v u 4] = b0 ∧ meetsB l [] = true := by
  have hns : isNm nm = true ∧ v.size ≤ 16 := by
    unfold asksB at ha
    simp only [Bool.and_eq_true, decide_eq_true_eq] at ha
    exact ha.1
  have hus : u.size ≤ 16 := by rw [hu]; simp; omega
  have q0 : asksB (mq nm v u 0) = true := by simp [asksB, mq, hns.1, hns.2]
  have q1 : asksB (mq nm v u 1) = true := by simp [asksB, mq, hns.1, hns.2]
  have q2 : asksB (mq nm v u 2) = true := by simp [asksB, mq, hns.1, hns.2]
  have q3 : asksB (mq nm v u 3) = true := by simp [asksB, mq, hns.1, hus]
  have q4 : asksB (mq nm v u 4) = true := by simp [asksB, mq, hns.1]; exact ⟨by decide, rfl⟩
  obtain ⟨g, hg⟩ : ∃ g, g = lst l nm l.length := ⟨_, rfl⟩
  have e0 : meetsB l [mq nm v u 0] = is2 g v := by rw [one_meets hs q0, hg]; exact (meet1_of _ v).1
  have e1 : meetsB l [mq nm v u 1] = !is2 g v := by rw [one_meets hs q1, hg]; exact (meet1_of _ v).2.1
  have e2 : meetsB l [mq nm v u 2] = st2 g v := by rw [one_meets hs q2, hg]; exact (meet1_of _ v).2.2.1
  have e3 : meetsB l [mq nm v u 3] = st2 g u := by rw [one_meets hs q3, hg]; exact (meet1_of _ u).2.2.1
  have e4 : meetsB l [mq nm v u 4] = g.2 := by rw [one_meets hs q4, hg]; exact (meet1_of _ _).2.2.2
  refine ⟨_, _, _, _, _, e0, e1, e2, e3, e4, by cases is2 g v <;> rfl, fun h => ?_, fun h => ?_, fun h => ?_, ?_, ?_⟩
  · unfold is2 at h
    simp only [Bool.and_eq_true, decide_eq_true_eq] at h
    unfold st2
    rw [h.1, h.2, prefB_self]; rfl
  · unfold st2 at h ⊢
    rw [Bool.and_eq_true] at h ⊢
    exact ⟨h.1, by rw [hu]; exact prefB_cut h.2 k⟩
  · unfold st2 at h
    rw [Bool.and_eq_true] at h
    exact h.1
  · rw [two_meets hs q0 q4, e0, e4]
    unfold is2
    cases g.2 <;> simp
  · unfold meetsB
    rw [hs]; rfl
end Go.Proofs.Ytiboghehonmpnaa
