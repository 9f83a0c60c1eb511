/- Small functions of entries, walked: the sum that is at most so much; which one is ahead; may two be put together. -/
import Derived.Test.YteihbbmbdkkbbaaEInsWeak
import Derived.Test.YteihbbmbdkkbbaaEChoPlain
namespace Go.Proofs.Yteihbbmbdkkbbaa
open Go.ChangeShapes Go.WideShapes Go.Deep Go.RowKit LabPlain Stab
set_option linter.unusedVariables false

set_option maxRecDepth 100000 in
theorem plus_any {a b most : Int} (ha : 1 ≤ a ∧ a ≤ 4398046511104) (hb : 1 ≤ b ∧ b ≤ 4398046511104) (w : World) : Calls Try.prog 54 #[.int .i64 a, .int .i64 b, .int .i64 most] w fun e w' => e = .returned (.tuple #[.int .i64 (a + b), .bool (decide (a + b ≤ most))]) ∧ Below w.heap.size w w' := by
  have ws : IntKind.i64.wrap (a + b) = a + b := by rw [IntWalk.i64_in _ (by omega)]
  have h1 : 0 < a := by omega
  have h2 : 0 < b := by omega
  have h3 : ¬ a + b < 0 := by omega
  have h4 : ¬ a < 0 := by omega
  go_enter Try.func54, Try.ntmps54
  go_wp2_with fail
  first | go_ret2 | go_ret
  exact ⟨rfl, Below.refl _ _⟩

theorem cmp3_ne {x y : Int} (h : x ≠ y) : cmp3 x y ≠ 0 ∧ decide (cmp3 x y < 0) = decide (x < y) := by
  unfold cmp3
  by_cases h1 : x < y
  · simp [h1]
  · have : y < x := by omega
    simp [h1, this]
theorem cmp3_eq {x y : Int} (h : x = y) : cmp3 x y = 0 := by unfold cmp3; simp [h]
theorem cmpS_ne {x y : ByteArray} (h : x ≠ y) : cmpS x y ≠ 0 ∧ decide (cmpS x y < 0) = ltB x y := by
  unfold cmpS
  cases h1 : ltB x y with
  | true => simp
  | false =>
    cases h2 : ltB y x with
    | true => simp
    | false => exact absurd (ltB_total h1 h2) h
theorem cmpS_eq {x y : ByteArray} (h : x = y) : cmpS x y = 0 := by unfold cmpS; simp [h, ltB_irrefl]
theorem ltE_eq (x y : EntV) : ltE x y = decide ((if cmp3 x.win y.win ≠ 0 then cmp3 x.win y.win else if cmpS x.part y.part ≠ 0 then cmpS x.part y.part else if cmp3 x.born y.born ≠ 0 then cmp3 x.born y.born else cmpS x.key y.key) < 0) := rfl
theorem ltE_win {x y : EntV} (h : x.win ≠ y.win) : ltE x y = decide (x.win < y.win) := by
  rw [ltE_eq, if_pos (cmp3_ne h).1, (cmp3_ne h).2]
theorem ltE_part {x y : EntV} (h : x.win = y.win) (h2 : x.part ≠ y.part) : ltE x y = ltB x.part y.part := by
  rw [ltE_eq, if_neg (fun e => e (cmp3_eq h)), if_pos (cmpS_ne h2).1, (cmpS_ne h2).2]
theorem ltE_born {x y : EntV} (h : x.win = y.win) (h2 : x.part = y.part) (h3 : x.born ≠ y.born) : ltE x y = decide (x.born < y.born) := by
  rw [ltE_eq, if_neg (fun e => e (cmp3_eq h)), if_neg (fun e => e (cmpS_eq h2)), if_pos (cmp3_ne h3).1, (cmp3_ne h3).2]
theorem ltE_key {x y : EntV} (h : x.win = y.win) (h2 : x.part = y.part) (h3 : x.born = y.born) : ltE x y = ltB x.key y.key := by
  rw [ltE_eq, if_neg (fun e => e (cmp3_eq h)), if_neg (fun e => e (cmpS_eq h2)), if_neg (fun e => e (cmp3_eq h3))]
  by_cases h4 : x.key = y.key
  · rw [cmpS_eq h4, h4, ltB_irrefl]; rfl
  · exact (cmpS_ne h4).2

set_option maxRecDepth 100000 in
set_option maxHeartbeats 1000000 in
theorem ahead_any (x y : EntV) (w : World) : Calls Try.prog 44 #[.agg #[.string x.key, .int .i64 x.win, .string x.part, .int .i64 x.fst, .int .i64 x.lst, .int .i64 x.rows, .int .i64 x.size, .int .u32 x.sum, .int .i64 x.born], .agg #[.string y.key, .int .i64 y.win, .string y.part, .int .i64 y.fst, .int .i64 y.lst, .int .i64 y.rows, .int .i64 y.size, .int .u32 y.sum, .int .i64 y.born]] w fun e w' => e = .returned (.bool (ltE x y)) ∧ Below w.heap.size w w' := by
  have HB := Lib.hid (((Below.refl w.heap.size w).alloc (Nat.le_refl _) (.cells #[.string x.key, .int .i64 x.win, .string x.part, .int .i64 x.fst, .int .i64 x.lst, .int .i64 x.rows, .int .i64 x.size, .int .u32 x.sum, .int .i64 x.born] 57)).alloc ((Below.refl w.heap.size w).alloc (Nat.le_refl _) (.cells #[.string x.key, .int .i64 x.win, .string x.part, .int .i64 x.fst, .int .i64 x.lst, .int .i64 x.rows, .int .i64 x.size, .int .u32 x.sum, .int .i64 x.born] 57)).size (.cells #[.string y.key, .int .i64 y.win, .string y.part, .int .i64 y.fst, .int .i64 y.lst, .int .i64 y.rows, .int .i64 y.size, .int .u32 y.sum, .int .i64 y.born] 57))
  by_cases h1 : x.win = y.win
  case neg =>
    have z1 : (x.win != y.win) = true := by rw [bne_iff_ne]; exact h1
    have HE := Lib.hid (ltE_win h1)
    clear h1
    go_enter Try.func44, Try.ntmps44
    go_wp2_with fail
    go_ret
    rw [HE.out]
    exact ⟨rfl, HB.out⟩
  case pos =>
    have z1 : (x.win != y.win) = false := by rw [h1]; simp
    by_cases h2 : x.part = y.part
    case neg =>
      have z2 : (x.part.toList == y.part.toList) = false := by rw [beq_eq_false_iff_ne]; exact fun e => h2 (toList_inj e)
      have HE := Lib.hid (ltE_part h1 h2)
      clear h1 h2
      go_enter Try.func44, Try.ntmps44
      go_wp2_with fail
      go_ret
      rw [HE.out]
      exact ⟨rfl, HB.out⟩
    case pos =>
      have z2 : (x.part.toList == y.part.toList) = true := by rw [h2]; simp
      by_cases h3 : x.born = y.born
      case neg =>
        have z3 : (x.born != y.born) = true := by rw [bne_iff_ne]; exact h3
        have HE := Lib.hid (ltE_born h1 h2 h3)
        clear h1 h2 h3
        go_enter Try.func44, Try.ntmps44
        go_wp2_with fail
        go_ret
        rw [HE.out]
        exact ⟨rfl, HB.out⟩
      case pos =>
        have z3 : (x.born != y.born) = false := by rw [h3]; simp
        have HE := Lib.hid (ltE_key h1 h2 h3)
        clear h1 h2 h3
        go_enter Try.func44, Try.ntmps44
        go_wp2_with fail
        go_ret
        rw [HE.out]
        exact ⟨rfl, HB.out⟩
end Go.Proofs.Yteihbbmbdkkbbaa
