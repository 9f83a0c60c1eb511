/- An entry compared with itself. -/
import Derived.Test.YteihbbmbdkkbbaaEEntAt
import Derived.Laws.StructEq
namespace Go.Proofs.Yteihbbmbdkkbbaa
open Go.RowKit LabPlain
set_option linter.unusedVariables false

@[go_sem] theorem eq_ent (x : EntV) (w : World) : (Op.equalIn 10000 57 (.agg #[.string x.key, .int .i64 x.win, .string x.part, .int .i64 x.fst, .int .i64 x.lst, .int .i64 x.rows, .int .i64 x.size, .int .u32 x.sum, .int .i64 x.born]) (.agg #[.string x.key, .int .i64 x.win, .string x.part, .int .i64 x.fst, .int .i64 x.lst, .int .i64 x.rows, .int .i64 x.size, .int .u32 x.sum, .int .i64 x.born])).run Try.prog w = .ok true w := by
  have us := Try.underlying9
  have ag := Try.isAgg9
  have zs := Try.sizeOf9
  have hS : Try.prog.underlying 57 = some (.struct (Try.prog.fieldsOf 57)) := by kernel_rfl
  have hp : Try.prog.stoodInHeld 57 = false := by kernel_rfl
  rw [show (10000 : Nat) = 9999 + 1 from rfl, run_equalIn_agg w 9999 57 _ _ hS hp]
  simp only [Program.fieldsOf, Try.underlying57]
  go_simp
@[go_sem] theorem guard_ent (x y : Operand) (xs ys : Array Value) (w : World) : (eqGuard .neq 57 x y (.agg xs) (.agg ys)).run Try.prog w = .ok () w := run_eqGuard_agg w .neq 57 x y xs ys (by kernel_rfl)
@[go_sem] theorem neq_ent (x : EntV) (w : World) : (binOp .neq 57 (.agg #[.string x.key, .int .i64 x.win, .string x.part, .int .i64 x.fst, .int .i64 x.lst, .int .i64 x.rows, .int .i64 x.size, .int .u32 x.sum, .int .i64 x.born]) (.agg #[.string x.key, .int .i64 x.win, .string x.part, .int .i64 x.fst, .int .i64 x.lst, .int .i64 x.rows, .int .i64 x.size, .int .u32 x.sum, .int .i64 x.born])).run Try.prog w = .ok (.bool false) w := by
  rw [run_neq_struct, eq_ent]; rfl
end Go.Proofs.Yteihbbmbdkkbbaa
