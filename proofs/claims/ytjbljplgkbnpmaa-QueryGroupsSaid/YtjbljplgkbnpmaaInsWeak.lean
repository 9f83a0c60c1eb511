/- The order of rows is one with ties. -/
import Derived.Test.YtjbljplgkbnpmaaIns
namespace Go.Proofs.Ytjbljplgkbnpmaa
open Stab
theorem cmpRow_lex (x y : RowV) : cmpRow x y < 0 ↔ (x.r.time < y.r.time ∨ (x.r.time = y.r.time ∧ (x.who < y.who ∨ (x.who = y.who ∧ (x.sq < y.sq ∨ (x.sq = y.sq ∧ x.pl < y.pl)))))) := by
  unfold cmpRow RowV.key
  simp only [cmpL]
  repeat' split
  all_goals omega
theorem weak_ltR : Weak ltR where
  irr x := by unfold ltR; rw [decide_eq_false_iff_not, cmpRow_lex]; omega
  tr x y z h1 h2 := by
    unfold ltR at *
    rw [decide_eq_true_iff, cmpRow_lex] at *
    omega
  co x y z h1 h2 := by
    unfold ltR at *
    rw [decide_eq_false_iff_not, cmpRow_lex] at *
    omega
end Go.Proofs.Ytjbljplgkbnpmaa
