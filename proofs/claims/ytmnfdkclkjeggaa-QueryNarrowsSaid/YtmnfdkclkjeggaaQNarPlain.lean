/- One matcher more, ahead or behind: plainly. -/
import Derived.Test.YtmnfdkclkjeggaaQAns
namespace Go.Proofs.Ytmnfdkclkjeggaa
open Go.RowKit LabPlain RecPlain Stab
set_option linter.unusedVariables false

def meetF (l : List Lab) (m : Mat) : Bool := asksB m && meet1 (lst l m.1 l.length) m.2.1 m.2.2
theorem meetTo_all (l : List Lab) (ms : List Mat) : ∀ k, k ≤ ms.length → meetTo l ms k = (ms.take k).all (meetF l)
  | 0, _ => rfl
  | k + 1, h => by
    have e : ms.getD k mat0 = ms[k]'(by omega) := by simp [show k < ms.length by omega]
    rw [meetTo, meetTo_all l ms k (by omega), List.take_succ_eq_append_getElem (by omega), List.all_append, e]
    simp [meetF]
theorem meets_all (l : List Lab) (ms : List Mat) : meetsB l ms = (isSet l && ms.all (meetF l)) := by
  unfold meetsB
  rw [meetTo_all l ms _ (Nat.le_refl _), List.take_length]
theorem meets_turn (l : List Lab) (ms : List Mat) (m : Mat) : meetsB l (ms ++ [m]) = meetsB l (m :: ms) := by
  rw [meets_all, meets_all, List.all_append, List.all_cons, List.all_cons, List.all_nil, Bool.and_true, Bool.and_comm (ms.all _)]
theorem meets_less {l : List Lab} {ms : List Mat} {m : Mat} (h : meetsB l (ms ++ [m]) = true) : meetsB l ms = true := by
  rw [meets_all, List.all_append] at h
  rw [meets_all]
  simp only [Bool.and_eq_true] at h ⊢
  exact ⟨h.1, h.2.1⟩
def qA (q : QP) (m : Mat) : QP := ⟨q.fr, q.to, q.ms ++ [m], q.lim, q.tx⟩
def qB (q : QP) (m : Mat) : QP := ⟨q.fr, q.to, m :: q.ms, q.lim, q.tx⟩
theorem right_turn (q : QP) (m : Mat) : qRight (qA q m) = qRight (qB q m) := by
  unfold qRight qA qB
  simp only [List.length_append, List.length_cons, List.length_nil, List.all_append, List.all_cons, List.all_nil, Bool.and_true]
  rw [Bool.and_comm (q.ms.all asksB)]
  first | done | rfl
theorem right_less {q : QP} {m : Mat} (h : qRight (qA q m) = true) : qRight q = true := by
  obtain ⟨⟨a1, a2, a3, a4, a5, a6⟩, a7⟩ := qRight_iff.1 h
  unfold qA at a1 a2 a3 a4 a5 a6 a7
  simp only [List.length_append, List.length_cons, List.length_nil, List.all_append, Bool.and_eq_true] at a1 a2 a3 a4 a5 a6 a7
  exact qRight_iff.2 ⟨⟨a1, a2, a3, by omega, a5, a6⟩, a7.1⟩
theorem keep_turn (q : QP) (m : Mat) (s : Say) : keepS (qA q m) s = keepS (qB q m) s := by
  unfold keepS qA qB
  simp only
  rw [meets_turn]
theorem keep_less {q : QP} {m : Mat} {s : Say} (h : keepS (qA q m) s = true) : keepS q s = true := by
  unfold keepS qA at h
  unfold keepS
  simp only [Bool.and_eq_true] at h ⊢
  exact ⟨h.1, meets_less h.2⟩
theorem ans_turn (q : QP) (m : Mat) (L : List Say) : ansS (qA q m) L = ansS (qB q m) L := by
  have h : keepS (qA q m) = keepS (qB q m) := funext (keep_turn q m)
  unfold ansS
  rw [right_turn, h]
  rfl
theorem k_turn (q : QP) (m : Mat) (s : Say) : (qRight (qA q m) && keepS (qA q m) s) = (qRight (qB q m) && keepS (qB q m) s) := by rw [right_turn, keep_turn]
theorem k_less {q : QP} {m : Mat} {s : Say} (h : (qRight (qA q m) && keepS (qA q m) s) = true) : (qRight q && keepS q s) = true := by
  simp only [Bool.and_eq_true] at h ⊢
  exact ⟨right_less h.1, keep_less h.2⟩
end Go.Proofs.Ytmnfdkclkjeggaa
