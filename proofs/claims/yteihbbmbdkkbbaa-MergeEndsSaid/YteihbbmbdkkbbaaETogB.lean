/- The document's Together, walked. Written out by a loop (see NOTES). -/
import Derived.Test.YteihbbmbdkkbbaaEAhead
namespace Go.Proofs.Yteihbbmbdkkbbaa
open Go.ChangeShapes Go.WideShapes Go.Deep Go.RowKit LabPlain Stab
set_option linter.unusedVariables false

set_option maxRecDepth 100000 in
set_option maxHeartbeats 2000000 in
theorem togB_any (x y : EntV) {small most : Int} (hx : 1 ≤ x.rows ∧ x.rows ≤ 1099511627776) (hm : 0 ≤ most ∧ most ≤ 1099511627776) (w : World) : Calls Try.prog 26 #[.agg #[.string x.key, .int .i64 x.win, .string x.part, .int .i64 x.fst, .int .i64 x.lst, .int .i64 x.rows, .int .i64 x.size, .int .u32 x.sum, .int .i64 x.born], .agg #[.string y.key, .int .i64 y.win, .string y.part, .int .i64 y.fst, .int .i64 y.lst, .int .i64 y.rows, .int .i64 y.size, .int .u32 y.sum, .int .i64 y.born], .int .i64 small, .int .i64 most] w fun e w' => e = .returned (.bool (togB x y small most)) ∧ Below w.heap.size w w' := by
  have HB := Lib.hid (((Below.refl w.heap.size w).alloc (Nat.le_refl _) (.cells #[.string x.key, .int .i64 x.win, .string x.part, .int .i64 x.fst, .int .i64 x.lst, .int .i64 x.rows, .int .i64 x.size, .int .u32 x.sum, .int .i64 x.born] 57)).alloc ((Below.refl w.heap.size w).alloc (Nat.le_refl _) (.cells #[.string x.key, .int .i64 x.win, .string x.part, .int .i64 x.fst, .int .i64 x.lst, .int .i64 x.rows, .int .i64 x.size, .int .u32 x.sum, .int .i64 x.born] 57)).size (.cells #[.string y.key, .int .i64 y.win, .string y.part, .int .i64 y.fst, .int .i64 y.lst, .int .i64 y.rows, .int .i64 y.size, .int .u32 y.sum, .int .i64 y.born] 57))
  have ws : IntKind.i64.wrap (most - x.rows) = most - x.rows := by rw [IntWalk.i64_in _ (by omega)]
  by_cases h0 : x.win = y.win
  case neg =>
    have z0 : (x.win == y.win) = false := by rw [beq_eq_false_iff_ne]; exact h0
    have HE := Lib.hid (show togB x y small most = false from by unfold togB; simp [h0])
    clear h0
    go_enter Try.func26, Try.ntmps26
    go_wp2_with fail
    go_ret
    rw [HE.out]
    exact ⟨rfl, HB.out⟩
  case pos =>
    have z0 : (x.win == y.win) = true := by rw [h0]; simp
    by_cases h1 : x.part = y.part
    case neg =>
      have z1 : (x.part.toList == y.part.toList) = false := by rw [beq_eq_false_iff_ne]; exact fun e => h1 (toList_inj e)
      have HE := Lib.hid (show togB x y small most = false from by unfold togB; simp [h1])
      clear h0 h1
      go_enter Try.func26, Try.ntmps26
      go_wp2_with fail
      go_ret
      rw [HE.out]
      exact ⟨rfl, HB.out⟩
    case pos =>
      have z1 : (x.part.toList == y.part.toList) = true := by rw [h1]; simp
      by_cases h2 : x.rows < small
      case neg =>
        have z2 : decide (x.rows < small) = false := decide_eq_false h2
        have HE := Lib.hid (show togB x y small most = false from by unfold togB; simp [h2])
        clear h0 h1
        go_enter Try.func26, Try.ntmps26
        go_wp2_with fail
        go_ret
        rw [HE.out]
        exact ⟨rfl, HB.out⟩
      case pos =>
        have z2 : decide (x.rows < small) = true := decide_eq_true h2
        by_cases h3 : y.rows < small
        case neg =>
          have z3 : decide (y.rows < small) = false := decide_eq_false h3
          have HE := Lib.hid (show togB x y small most = false from by unfold togB; simp [h3])
          clear h0 h1
          go_enter Try.func26, Try.ntmps26
          go_wp2_with fail
          go_ret
          rw [HE.out]
          exact ⟨rfl, HB.out⟩
        case pos =>
          have z3 : decide (y.rows < small) = true := decide_eq_true h3
          by_cases h4 : x.rows ≤ most
          case neg =>
            have z4 : decide (x.rows ≤ most) = false := decide_eq_false h4
            have HE := Lib.hid (show togB x y small most = false from by unfold togB; simp [h4])
            clear h0 h1
            go_enter Try.func26, Try.ntmps26
            go_wp2_with fail
            go_ret
            rw [HE.out]
            exact ⟨rfl, HB.out⟩
          case pos =>
            have z4 : decide (x.rows ≤ most) = true := decide_eq_true h4
            by_cases h5 : y.rows ≤ most - x.rows
            case neg =>
              have z5 : decide (y.rows ≤ most - x.rows) = false := decide_eq_false h5
              have HE := Lib.hid (show togB x y small most = false from by unfold togB; simp [h5])
              clear h0 h1
              go_enter Try.func26, Try.ntmps26
              go_wp2_with fail
              go_ret
              rw [HE.out]
              exact ⟨rfl, HB.out⟩
            case pos =>
              have z5 : decide (y.rows ≤ most - x.rows) = true := decide_eq_true h5
              have HE := Lib.hid (show togB x y small most = true from by unfold togB; simp [h0, h1, h2, h3, h4, h5])
              clear h0 h1
              go_enter Try.func26, Try.ntmps26
              go_wp2_with fail
              go_ret
              rw [HE.out]
              exact ⟨rfl, HB.out⟩
end Go.Proofs.Yteihbbmbdkkbbaa
