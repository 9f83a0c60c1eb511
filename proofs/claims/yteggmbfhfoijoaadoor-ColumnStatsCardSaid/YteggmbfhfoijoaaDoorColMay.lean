/- May of stats, of integers and of texts, walked. (Written by genmay.py.) -/
import Derived.Test.YteggmbfhfoijoaaDoorColOf
namespace Go.Proofs.YteggmbfhfoijoaaDoor
open Go.RowKit LabPlain
set_option linter.unusedVariables false

def mayIB (n : Nat) (lo hi x y : Int) : Bool := decide (0 < n) && (!(decide (y < x)) && (!(decide (hi < x)) && !(decide (y < lo))))
set_option maxRecDepth 100000 in
set_option maxHeartbeats 2000000 in
theorem mayI_any (w : World) (n : Nat) (lo hi x y : Int) :
    Calls Tryd.prog 11 #[.agg #[.int .i64 (n : Int), .int .i64 lo, .int .i64 hi], .int .i64 x, .int .i64 y] w fun e w' => e = .returned (.bool (mayIB n lo hi x y)) ∧ Below w.heap.size w w' := by
  obtain ⟨wb, hwb⟩ : ∃ wb, wb = w.alloc (.cells #[.int .i64 (n : Int), .int .i64 lo, .int .i64 hi] 34) := ⟨_, rfl⟩
  have hb : Below w.heap.size w wb := by rw [hwb]; exact (Below.refl _ _).alloc (Nat.le_refl _) _
  have gB : wb.heap[w.heap.size]? = some (.cells #[.int .i64 (n : Int), .int .i64 lo, .int .i64 hi] 34 (0, 0)) := by rw [hwb]; exact heap_alloc_new _ _
  have m0 := cell_of gB (i := 0) (u := .int .i64 (n : Int)) rfl
  have m1 := cell_of gB (i := 1) (u := .int .i64 lo) rfl
  have m2 := cell_of gB (i := 2) (u := .int .i64 hi) rfl
  have HWB := Lib.hid hwb
  have HB := Lib.hid hb
  have HC1 := lessI_any y x wb
  have HC2 := lessI_any hi x wb
  have HC3 := lessI_any y lo wb
  obtain ⟨d1, hd1⟩ : ∃ d, d = decide (y < x) := ⟨_, rfl⟩
  obtain ⟨d2, hd2⟩ : ∃ d, d = decide (hi < x) := ⟨_, rfl⟩
  obtain ⟨d3, hd3⟩ : ∃ d, d = decide (y < lo) := ⟨_, rfl⟩
  rw [← hd1] at HC1
  rw [← hd2] at HC2
  rw [← hd3] at HC3
  have HE := Lib.hid (show mayIB n lo hi x y = (decide (0 < n) && (!d1 && (!d2 && !d3))) from by unfold mayIB; rw [hd1, hd2, hd3])
  have HC1 := Lib.hid HC1
  have HC2 := Lib.hid HC2
  have HC3 := Lib.hid HC3
  clear hb gB hwb hd1 hd2 hd3
  by_cases hn : 0 < n
  · have hni : (0 : Int) < (n : Int) := by omega
    have hn0 : decide (0 < n) = true := decide_eq_true hn
    rw [hn0] at HE
    go_enter Tryd.func11, Tryd.ntmps11
    go_wp2_with fail
    rw [← HWB.out]
    refine HC1.out.mono ?_
    rintro e w2 ⟨rfl, hw2⟩
    subst hw2
    cases d1
    · go_wp2_with fail
      refine HC2.out.mono ?_
      rintro e w2 ⟨rfl, hw2⟩
      subst hw2
      cases d2
      · go_wp2_with fail
        refine HC3.out.mono ?_
        rintro e w2 ⟨rfl, hw2⟩
        subst hw2
        go_wp2_with fail
        go_ret
        rw [HE.out]
        exact ⟨by cases d3 <;> rfl, HB.out⟩
      · go_wp2_with fail
        go_ret
        rw [HE.out]
        exact ⟨rfl, HB.out⟩
    · go_wp2_with fail
      go_ret
      rw [HE.out]
      exact ⟨rfl, HB.out⟩
  · have hni : ¬ (0 : Int) < (n : Int) := by omega
    have hn0 : decide (0 < n) = false := decide_eq_false hn
    rw [hn0] at HE
    go_enter Tryd.func11, Tryd.ntmps11
    go_wp2_with fail
    go_ret
    rw [HE.out]
    exact ⟨rfl, by rw [← HWB.out]; exact HB.out⟩

def maySB (n : Nat) (lo hi x y : ByteArray) : Bool := decide (0 < n) && (!(ltB y x) && (!(ltB hi x) && !(ltB y lo)))
set_option maxRecDepth 100000 in
set_option maxHeartbeats 2000000 in
theorem mayS_any (w : World) (n : Nat) (lo hi x y : ByteArray) :
    Calls Tryd.prog 10 #[.agg #[.int .i64 (n : Int), .string lo, .string hi], .string x, .string y] w fun e w' => e = .returned (.bool (maySB n lo hi x y)) ∧ Below w.heap.size w w' := by
  obtain ⟨wb, hwb⟩ : ∃ wb, wb = w.alloc (.cells #[.int .i64 (n : Int), .string lo, .string hi] 37) := ⟨_, rfl⟩
  have hb : Below w.heap.size w wb := by rw [hwb]; exact (Below.refl _ _).alloc (Nat.le_refl _) _
  have gB : wb.heap[w.heap.size]? = some (.cells #[.int .i64 (n : Int), .string lo, .string hi] 37 (0, 0)) := by rw [hwb]; exact heap_alloc_new _ _
  have m0 := cell_of gB (i := 0) (u := .int .i64 (n : Int)) rfl
  have m1 := cell_of gB (i := 1) (u := .string lo) rfl
  have m2 := cell_of gB (i := 2) (u := .string hi) rfl
  have HWB := Lib.hid hwb
  have HB := Lib.hid hb
  have HC1 := lessS_any y x wb
  have HC2 := lessS_any hi x wb
  have HC3 := lessS_any y lo wb
  obtain ⟨d1, hd1⟩ : ∃ d, d = ltB y x := ⟨_, rfl⟩
  obtain ⟨d2, hd2⟩ : ∃ d, d = ltB hi x := ⟨_, rfl⟩
  obtain ⟨d3, hd3⟩ : ∃ d, d = ltB y lo := ⟨_, rfl⟩
  rw [← hd1] at HC1
  rw [← hd2] at HC2
  rw [← hd3] at HC3
  have HE := Lib.hid (show maySB n lo hi x y = (decide (0 < n) && (!d1 && (!d2 && !d3))) from by unfold maySB; rw [hd1, hd2, hd3])
  have HC1 := Lib.hid HC1
  have HC2 := Lib.hid HC2
  have HC3 := Lib.hid HC3
  clear hb gB hwb hd1 hd2 hd3
  by_cases hn : 0 < n
  · have hni : (0 : Int) < (n : Int) := by omega
    have hn0 : decide (0 < n) = true := decide_eq_true hn
    rw [hn0] at HE
    go_enter Tryd.func10, Tryd.ntmps10
    go_wp2_with fail
    rw [← HWB.out]
    refine HC1.out.mono ?_
    rintro e w2 ⟨rfl, hw2⟩
    subst hw2
    cases d1
    · go_wp2_with fail
      refine HC2.out.mono ?_
      rintro e w2 ⟨rfl, hw2⟩
      subst hw2
      cases d2
      · go_wp2_with fail
        refine HC3.out.mono ?_
        rintro e w2 ⟨rfl, hw2⟩
        subst hw2
        go_wp2_with fail
        go_ret
        rw [HE.out]
        exact ⟨by cases d3 <;> rfl, HB.out⟩
      · go_wp2_with fail
        go_ret
        rw [HE.out]
        exact ⟨rfl, HB.out⟩
    · go_wp2_with fail
      go_ret
      rw [HE.out]
      exact ⟨rfl, HB.out⟩
  · have hni : ¬ (0 : Int) < (n : Int) := by omega
    have hn0 : decide (0 < n) = false := decide_eq_false hn
    rw [hn0] at HE
    go_enter Tryd.func10, Tryd.ntmps10
    go_wp2_with fail
    go_ret
    rw [HE.out]
    exact ⟨rfl, by rw [← HWB.out]; exact HB.out⟩

end Go.Proofs.YteggmbfhfoijoaaDoor
