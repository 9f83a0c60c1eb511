/- Manifests: entries, marks and owners where they lie; small functions, walked. Written by genmfa.py. -/
import Derived.Test.YtmgimmbihcbkbaaGreatVec
import Derived.Test.YtmgimmbihcbkbaaGreatLabPlain
import Derived.Laws.Cover1
namespace Go.Proofs.YtmgimmbihcbkbaaGreat
open Go.RowKit LabPlain
set_option linter.unusedVariables false

structure EntV where
  key : ByteArray
  win : Int
  part : ByteArray
  fst : Int
  lst : Int
  rows : Int
  size : Int
  sum : Int
  born : Int
def ent0 : EntV := ⟨ByteArray.empty, 0, ByteArray.empty, 0, 0, 0, 0, 0, 0⟩
def EntV.cells (x : EntV) : List Value := [.string x.key, .int .i64 x.win, .string x.part, .int .i64 x.fst, .int .i64 x.lst, .int .i64 x.rows, .int .i64 x.size, .int .u32 x.sum, .int .i64 x.born]
def EntS : Sty EntV := ⟨EntV.cells, 9, ent0, fun _ x => x.key.size ≤ 140737488355328 ∧ x.part.size ≤ 140737488355328, by decide, fun _ => rfl, (fun x u hu => by simp [EntV.cells] at hu; rcases hu with rfl | rfl | rfl | rfl | rfl | rfl | rfl | rfl | rfl <;> rfl), fun _ h => h⟩
def MarkS : Sty (Int × Int) := ⟨fun x => [.int .i64 x.1, .int .i64 x.2], 2, (0, 0), fun _ _ => True, by decide, fun _ => rfl, (fun x u hu => by simp at hu; rcases hu with rfl | rfl <;> rfl), fun _ h => h⟩
def OwnS : Sty (Int × Int × Int) := ⟨fun x => [.int .i64 x.1, .int .i64 x.2.1, .int .i64 x.2.2], 3, (0, 0, 0), fun _ _ => True, by decide, fun _ => rfl, (fun x u hu => by simp at hu; rcases hu with rfl | rfl | rfl <;> rfl), fun _ h => h⟩

theorem within_yes {n a b : Int} (h1 : a ≤ n) (h2 : n ≤ b) (w : World) : Calls Tryz.prog 35 #[.int .i64 n, .int .i64 a, .int .i64 b] w fun e w' => e = .returned (.bool true) ∧ w' = w := by
  go_enter Tryz.func35, Tryz.ntmps35
  go_wp2_with fail
  go_ret
  exact ⟨rfl, rfl⟩
set_option maxRecDepth 100000 in
theorem rightMark_yes {a b : Int} (h1 : 1 ≤ a ∧ a ≤ 64) (h2 : 1 ≤ b ∧ b ≤ 1099511627775) (w : World) : Calls Tryz.prog 40 #[.agg #[.int .i64 a, .int .i64 b]] w fun e w' => e = .returned (.bool true) ∧ Below w.heap.size w w' := by
  have HB := Lib.hid ((Below.refl w.heap.size w).alloc (Nat.le_refl _) (.cells #[.int .i64 a, .int .i64 b] 44))
  have HW1 := Lib.hid (within_yes h1.1 h1.2 (w.alloc (.cells #[.int .i64 a, .int .i64 b] 44)))
  have HW2 := Lib.hid (within_yes h2.1 h2.2 (w.alloc (.cells #[.int .i64 a, .int .i64 b] 44)))
  clear h1 h2
  go_enter Tryz.func40, Tryz.ntmps40
  go_wp2_with fail
  refine HW1.out.mono ?_
  rintro e w1 ⟨rfl, rfl⟩
  go_wp2_with fail
  refine HW2.out.mono ?_
  rintro e w1 ⟨rfl, rfl⟩
  go_wp2_with fail
  go_ret
  exact ⟨rfl, HB.out⟩
set_option maxRecDepth 100000 in
theorem rightOwner_yes {a b c : Int} (h1 : 1 ≤ a ∧ a ≤ 8) (h2 : 1 ≤ b ∧ b ≤ 1099511627775) (h3 : 1 ≤ c ∧ c ≤ 1099511627775) (w : World) : Calls Tryz.prog 42 #[.agg #[.int .i64 a, .int .i64 b, .int .i64 c]] w fun e w' => e = .returned (.bool true) ∧ Below w.heap.size w w' := by
  have HB := Lib.hid ((Below.refl w.heap.size w).alloc (Nat.le_refl _) (.cells #[.int .i64 a, .int .i64 b, .int .i64 c] 28))
  have HW1 := Lib.hid (within_yes h1.1 h1.2 (w.alloc (.cells #[.int .i64 a, .int .i64 b, .int .i64 c] 28)))
  have HW2 := Lib.hid (within_yes h2.1 h2.2 (w.alloc (.cells #[.int .i64 a, .int .i64 b, .int .i64 c] 28)))
  have HW3 := Lib.hid (within_yes h3.1 h3.2 (w.alloc (.cells #[.int .i64 a, .int .i64 b, .int .i64 c] 28)))
  clear h1 h2 h3
  go_enter Tryz.func42, Tryz.ntmps42
  go_wp2_with fail
  refine HW1.out.mono ?_
  rintro e w1 ⟨rfl, rfl⟩
  go_wp2_with fail
  refine HW2.out.mono ?_
  rintro e w1 ⟨rfl, rfl⟩
  go_wp2_with fail
  refine HW3.out.mono ?_
  rintro e w1 ⟨rfl, rfl⟩
  go_wp2_with fail
  go_ret
  exact ⟨rfl, HB.out⟩

set_option maxRecDepth 100000 in
theorem rising_nilE (a : Option Addr) (c : Nat) (cf rf : Value) (w : World) : Calls Tryz.prog 38 #[.slice a 0 c, cf, rf] w fun e w' => e = .returned (.bool true) ∧ w' = w := by
  go_enter Tryz.func38, Tryz.ntmps38
  go_wp2_with fail
  refine wp_loop_rounds 1 ?_
  rw [rounds_succ]
  go_wp2_with fail
  go_ret
  exact ⟨rfl, rfl⟩

set_option maxRecDepth 100000 in
theorem rising_nilM (a : Option Addr) (c : Nat) (cf rf : Value) (w : World) : Calls Tryz.prog 39 #[.slice a 0 c, cf, rf] w fun e w' => e = .returned (.bool true) ∧ w' = w := by
  go_enter Tryz.func39, Tryz.ntmps39
  go_wp2_with fail
  refine wp_loop_rounds 1 ?_
  rw [rounds_succ]
  go_wp2_with fail
  go_ret
  exact ⟨rfl, rfl⟩

set_option maxRecDepth 100000 in
theorem rising_nilO (a : Option Addr) (c : Nat) (cf rf : Value) (w : World) : Calls Tryz.prog 41 #[.slice a 0 c, cf, rf] w fun e w' => e = .returned (.bool true) ∧ w' = w := by
  go_enter Tryz.func41, Tryz.ntmps41
  go_wp2_with fail
  refine wp_loop_rounds 1 ?_
  rw [rounds_succ]
  go_wp2_with fail
  go_ret
  exact ⟨rfl, rfl⟩

set_option maxRecDepth 100000 in
theorem rising_nilS (a : Option Addr) (c : Nat) (cf rf : Value) (w : World) : Calls Tryz.prog 46 #[.slice a 0 c, cf, rf] w fun e w' => e = .returned (.bool true) ∧ w' = w := by
  go_enter Tryz.func46, Tryz.ntmps46
  go_wp2_with fail
  refine wp_loop_rounds 1 ?_
  rw [rounds_succ]
  go_wp2_with fail
  go_ret
  exact ⟨rfl, rfl⟩

end Go.Proofs.YtmgimmbihcbkbaaGreat
