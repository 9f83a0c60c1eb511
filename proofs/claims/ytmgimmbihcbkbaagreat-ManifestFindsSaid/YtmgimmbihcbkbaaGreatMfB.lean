/- Manifests: a mark, an entry looked up, walked. Written by genmfb.py. -/
import Derived.Test.YtmgimmbihcbkbaaGreatMfA
namespace Go.Proofs.YtmgimmbihcbkbaaGreat
open Go.RowKit LabPlain
set_option linter.unusedVariables false

def cmp3 (x y : Int) : Int := if x < y then -1 else if y < x then 1 else 0
def cmpS (x y : ByteArray) : Int := if ltB x y = true then -1 else if ltB y x = true then 1 else 0
theorem cmp3_0 {x y : Int} : cmp3 x y = 0 ↔ x = y := by
  unfold cmp3
  by_cases h1 : x < y
  · simp [h1]; omega
  · by_cases h2 : y < x
    · simp [h1, h2]; omega
    · simp [h1, h2]; omega
theorem txt_ne {x y : ByteArray} (h : x ≠ y) : (x.toList == y.toList) = false := by
  rw [beq_eq_false_iff_ne]
  exact fun e => h (ByteArray.ext (Array.toList_inj.1 (by rw [← ByteArray.toList_eq, ← ByteArray.toList_eq]; exact e)))
theorem ltB_total' {x y : ByteArray} (h : ltB x y = false) (h2 : ltB y x = false) : x = y := by
  have h1 := leq_not y x
  rw [h] at h1
  simp only [Bool.not_false, Bool.or_eq_true, beq_iff_eq] at h1
  rcases h1 with g | g
  · have : ltB y x = true := g
    rw [h2] at this; cases this
  · exact (ByteArray.ext (Array.toList_inj.1 (by rw [← ByteArray.toList_eq, ← ByteArray.toList_eq]; exact g))).symm
theorem nan_any (x : Int) (w : World) : Calls Tryz.prog 58 #[.int .i64 x] w fun e w' => e = .returned (.bool false) ∧ w' = w := by
  have z : (x != x) = false := by simp
  go_enter Tryz.func58, Tryz.ntmps58
  go_wp2_with fail
  go_ret
  exact ⟨rfl, rfl⟩
theorem nanS_any (x : ByteArray) (w : World) : Calls Tryz.prog 57 #[.string x] w fun e w' => e = .returned (.bool false) ∧ w' = w := by
  have z : (x.toList == x.toList) = true := by simp
  go_enter Tryz.func57, Tryz.ntmps57
  go_wp2_with fail
  go_ret
  exact ⟨rfl, rfl⟩

theorem cmpI_any (x y : Int) (w : World) : Calls Tryz.prog 33 #[.int .i64 x, .int .i64 y] w fun e w' => e = .returned (.int .i64 (cmp3 x y)) ∧ w' = w := by
  rcases Int.lt_trichotomy x y with h | h | h
  · have hh : ¬ y < x := by omega
    go_enter Tryz.func33, Tryz.ntmps33
    go_wp2_with fail
    refine (nan_any x w).mono ?_
    rintro e w2 ⟨rfl, rfl⟩
    go_wp2_with fail
    refine (nan_any y w2).mono ?_
    rintro e w3 ⟨rfl, rfl⟩
    go_wp2_with fail
    go_ret
    exact ⟨by simp [cmp3, h], rfl⟩
  · subst h
    go_enter Tryz.func33, Tryz.ntmps33
    go_wp2_with fail
    refine (nan_any x w).mono ?_
    rintro e w2 ⟨rfl, rfl⟩
    go_wp2_with fail
    refine (nan_any x w2).mono ?_
    rintro e w3 ⟨rfl, rfl⟩
    go_wp2_with fail
    go_ret
    exact ⟨by simp [cmp3], rfl⟩
  · have hh : ¬ x < y := by omega
    go_enter Tryz.func33, Tryz.ntmps33
    go_wp2_with fail
    refine (nan_any x w).mono ?_
    rintro e w2 ⟨rfl, rfl⟩
    go_wp2_with fail
    refine (nan_any y w2).mono ?_
    rintro e w3 ⟨rfl, rfl⟩
    go_wp2_with fail
    go_ret
    exact ⟨by simp [cmp3, h, hh], rfl⟩
theorem cmpS_any (x y : ByteArray) (w : World) : Calls Tryz.prog 32 #[.string x, .string y] w fun e w' => e = .returned (.int .i64 (cmpS x y)) ∧ w' = w := by
  cases h1 : ltB x y with
  | true =>
    have b1 : Op.bytesLess x.toList y.toList = true := h1
    have HE := Lib.hid h1
    clear h1
    go_enter Tryz.func32, Tryz.ntmps32
    go_wp2_with fail
    refine (nanS_any x w).mono ?_
    rintro e w2 ⟨rfl, rfl⟩
    go_wp2_with fail
    refine (nanS_any y w2).mono ?_
    rintro e w3 ⟨rfl, rfl⟩
    go_wp2_with fail
    go_ret
    exact ⟨by unfold cmpS; rw [if_pos HE.out]; rfl, rfl⟩
  | false =>
    have b1 : Op.bytesLess x.toList y.toList = false := h1
    have HE := Lib.hid h1
    clear h1
    cases h2 : ltB y x with
    | true =>
      have b2 : Op.bytesLess y.toList x.toList = true := h2
      have heq : (x.toList == y.toList) = false := txt_ne (fun e => by rw [e, ltB_irrefl] at h2; cases h2)
      have HE2 := Lib.hid h2
      clear h2
      go_enter Tryz.func32, Tryz.ntmps32
      go_wp2_with fail
      refine (nanS_any x w).mono ?_
      rintro e w2 ⟨rfl, rfl⟩
      go_wp2_with fail
      refine (nanS_any y w2).mono ?_
      rintro e w3 ⟨rfl, rfl⟩
      go_wp2_with fail
      go_ret
      exact ⟨by unfold cmpS; rw [if_neg (by rw [HE.out]; simp), if_pos HE2.out]; rfl, rfl⟩
    | false =>
      have b2 : Op.bytesLess y.toList x.toList = false := h2
      have heq : (x.toList == y.toList) = true := by rw [ltB_total' HE.out h2]; simp
      have HE2 := Lib.hid h2
      clear h2
      go_enter Tryz.func32, Tryz.ntmps32
      go_wp2_with fail
      refine (nanS_any x w).mono ?_
      rintro e w2 ⟨rfl, rfl⟩
      go_wp2_with fail
      refine (nanS_any y w2).mono ?_
      rintro e w3 ⟨rfl, rfl⟩
      go_wp2_with fail
      go_ret
      exact ⟨by unfold cmpS; rw [if_neg (by rw [HE.out]; simp), if_neg (by rw [HE2.out]; simp)]; rfl, rfl⟩
theorem cmpS_0 {x y : ByteArray} : cmpS x y = 0 ↔ x = y := by
  unfold cmpS
  constructor
  · intro h
    split at h
    · cases h
    · split at h
      · cases h
      · rename_i h1 h2
        exact ltB_total' (by simpa using h1) (by simpa using h2)
  · intro h
    rw [h, ltB_irrefl]; rfl
theorem find_at {α : Type} (p : α → Bool) (d : α) : ∀ (l : List α) (k : Nat), k < l.length → (∀ j, j < k → p (l.getD j d) = false) → p (l.getD k d) = true → l.find? p = some (l.getD k d)
  | x :: l, 0, _, _, h => by
    have h' : p x = true := h
    rw [List.find?_cons, h']; rfl
  | x :: l, k + 1, hk, h1, h => by
    have hx : p x = false := h1 0 (by omega)
    rw [List.find?_cons, hx]
    exact find_at p d l k (by simpa using hk) (fun j hj => h1 (j + 1) (by omega)) h
theorem find_no {α : Type} (p : α → Bool) (d : α) : ∀ (l : List α), (∀ j, j < l.length → p (l.getD j d) = false) → l.find? p = none
  | [], _ => rfl
  | x :: l, h => by
    have hx : p x = false := h 0 (by simp)
    rw [List.find?_cons, hx]
    exact find_no p d l (fun j hj => h (j + 1) (by simpa using hj))
theorem heap_set {w : World} {B : Nat} {cur : Array Value} {t : TypeId} (g : w.heap[B]? = some (.cells cur t (0, 0))) (i : Nat) (u : Value) : (w.setCell ⟨B, i, none⟩ u).heap[B]? = some (.cells (cur.setIfInBounds i u) t (0, 0)) := heap_setCell_same w B i cur t u g
theorem cell_blk {w : World} {B : Nat} {cur : Array Value} {t : TypeId} (g : w.heap[B]? = some (.cells cur t (0, 0))) {i : Nat} {u : Value} (h : cur[i]? = some u) : w.cell? ⟨B, i, none⟩ = some u := by rw [cell_of_row w _ _ _ _ (0, 0) g]; exact h
theorem fro_blk {w : World} {B : Nat} {cur : Array Value} {t : TypeId} (g : w.heap[B]? = some (.cells cur t (0, 0))) (i : Nat) : w.frozen? ⟨B, i, none⟩ = false := by simp [World.frozen?, g]
theorem ret_cell_tmp {P : Program} {fn : Func} {p u : Tmp} {ty : TypeId} (h : fn.results = #[.cell p ty, .tmp u]) (tmps : Array Value) (w : World) (g : Nat) (t : TypeId) (cs : Array Value) (fr : Nat × Nat) (d : TypeDesc)
    (hp : tmps.getD p undef = .pointer (some ⟨g, 0, none⟩)) (hg : w.heap[g]? = some (.cells cs t fr))
    (hu : P.underlying ty = some d) (hd : (match d with | .struct _ | .array _ _ => true | _ => false) = true) (hi : (P.info? ty).map (·.size) = some cs.size) :
    (results fn tmps).run P w = .ok (.tuple #[.agg cs, tmps.getD u undef]) w := by
  rw [results_cell_tmp h]
  have hp' : tmps[p]?.getD undef = .pointer (some ⟨g, 0, none⟩) := by simpa using hp
  simp [hp', asAddr, run_loadVar_row w g t ty cs fr d hg hu hd hi, Result.andThen]

theorem setM {v : World} {R : Nat} {c0 c1 : Value} {t : TypeId} (g : v.heap[R]? = some (.cells #[c0, c1] t (0, 0))) (x0 : Int) (x1 : Int) : ((v.setCell ⟨R, 0, none⟩ (.int .i64 x0)).setCell ⟨R, 1, none⟩ (.int .i64 x1)).heap[R]? = some (.cells #[.int .i64 x0, .int .i64 x1] t (0, 0)) := by
  have h := heap_set (heap_set (g) 0 (.int .i64 x0)) 1 (.int .i64 x1)
  simp only [List.setIfInBounds_toArray, List.set_cons_zero, List.set_cons_succ] at h
  exact h
theorem belowM {B R : Nat} {w v : World} (h : Below B w v) (hR : B ≤ R) (x0 : Int) (x1 : Int) : Below B w ((v.setCell ⟨R, 0, none⟩ (.int .i64 x0)).setCell ⟨R, 1, none⟩ (.int .i64 x1)) :=
  ((((h).setCell (p := ⟨R, 0, none⟩) hR (.int .i64 x0))).setCell (p := ⟨R, 1, none⟩) hR (.int .i64 x1))

theorem setO {v : World} {R : Nat} {c0 c1 c2 : Value} {t : TypeId} (g : v.heap[R]? = some (.cells #[c0, c1, c2] t (0, 0))) (x0 : Int) (x1 : Int) (x2 : Int) : (((v.setCell ⟨R, 0, none⟩ (.int .i64 x0)).setCell ⟨R, 1, none⟩ (.int .i64 x1)).setCell ⟨R, 2, none⟩ (.int .i64 x2)).heap[R]? = some (.cells #[.int .i64 x0, .int .i64 x1, .int .i64 x2] t (0, 0)) := by
  have h := heap_set (heap_set (heap_set (g) 0 (.int .i64 x0)) 1 (.int .i64 x1)) 2 (.int .i64 x2)
  simp only [List.setIfInBounds_toArray, List.set_cons_zero, List.set_cons_succ] at h
  exact h
theorem belowO {B R : Nat} {w v : World} (h : Below B w v) (hR : B ≤ R) (x0 : Int) (x1 : Int) (x2 : Int) : Below B w (((v.setCell ⟨R, 0, none⟩ (.int .i64 x0)).setCell ⟨R, 1, none⟩ (.int .i64 x1)).setCell ⟨R, 2, none⟩ (.int .i64 x2)) :=
  ((((((h).setCell (p := ⟨R, 0, none⟩) hR (.int .i64 x0))).setCell (p := ⟨R, 1, none⟩) hR (.int .i64 x1))).setCell (p := ⟨R, 2, none⟩) hR (.int .i64 x2))

theorem setE {v : World} {R : Nat} {c0 c1 c2 c3 c4 c5 c6 c7 c8 : Value} {t : TypeId} (g : v.heap[R]? = some (.cells #[c0, c1, c2, c3, c4, c5, c6, c7, c8] t (0, 0))) (x0 : ByteArray) (x1 : Int) (x2 : ByteArray) (x3 : Int) (x4 : Int) (x5 : Int) (x6 : Int) (x7 : Int) (x8 : Int) : (((((((((v.setCell ⟨R, 0, none⟩ (.string x0)).setCell ⟨R, 1, none⟩ (.int .i64 x1)).setCell ⟨R, 2, none⟩ (.string x2)).setCell ⟨R, 3, none⟩ (.int .i64 x3)).setCell ⟨R, 4, none⟩ (.int .i64 x4)).setCell ⟨R, 5, none⟩ (.int .i64 x5)).setCell ⟨R, 6, none⟩ (.int .i64 x6)).setCell ⟨R, 7, none⟩ (.int .u32 x7)).setCell ⟨R, 8, none⟩ (.int .i64 x8)).heap[R]? = some (.cells #[.string x0, .int .i64 x1, .string x2, .int .i64 x3, .int .i64 x4, .int .i64 x5, .int .i64 x6, .int .u32 x7, .int .i64 x8] t (0, 0)) := by
  have h := heap_set (heap_set (heap_set (heap_set (heap_set (heap_set (heap_set (heap_set (heap_set (g) 0 (.string x0)) 1 (.int .i64 x1)) 2 (.string x2)) 3 (.int .i64 x3)) 4 (.int .i64 x4)) 5 (.int .i64 x5)) 6 (.int .i64 x6)) 7 (.int .u32 x7)) 8 (.int .i64 x8)
  simp only [List.setIfInBounds_toArray, List.set_cons_zero, List.set_cons_succ] at h
  exact h
theorem belowE {B R : Nat} {w v : World} (h : Below B w v) (hR : B ≤ R) (x0 : ByteArray) (x1 : Int) (x2 : ByteArray) (x3 : Int) (x4 : Int) (x5 : Int) (x6 : Int) (x7 : Int) (x8 : Int) : Below B w (((((((((v.setCell ⟨R, 0, none⟩ (.string x0)).setCell ⟨R, 1, none⟩ (.int .i64 x1)).setCell ⟨R, 2, none⟩ (.string x2)).setCell ⟨R, 3, none⟩ (.int .i64 x3)).setCell ⟨R, 4, none⟩ (.int .i64 x4)).setCell ⟨R, 5, none⟩ (.int .i64 x5)).setCell ⟨R, 6, none⟩ (.int .i64 x6)).setCell ⟨R, 7, none⟩ (.int .u32 x7)).setCell ⟨R, 8, none⟩ (.int .i64 x8)) :=
  ((((((((((((((((((h).setCell (p := ⟨R, 0, none⟩) hR (.string x0))).setCell (p := ⟨R, 1, none⟩) hR (.int .i64 x1))).setCell (p := ⟨R, 2, none⟩) hR (.string x2))).setCell (p := ⟨R, 3, none⟩) hR (.int .i64 x3))).setCell (p := ⟨R, 4, none⟩) hR (.int .i64 x4))).setCell (p := ⟨R, 5, none⟩) hR (.int .i64 x5))).setCell (p := ⟨R, 6, none⟩) hR (.int .i64 x6))).setCell (p := ⟨R, 7, none⟩) hR (.int .u32 x7))).setCell (p := ⟨R, 8, none⟩) hR (.int .i64 x8))

set_option maxRecDepth 100000 in
theorem byM_any (x0 y0 : Int) (x1 y1 : Int) (w : World) : Calls Tryz.prog 16 #[.agg #[.int .i64 x0, .int .i64 x1], .agg #[.int .i64 y0, .int .i64 y1]] w fun e w' => e = .returned (.int .i64 (cmp3 x0 y0)) ∧ Below w.heap.size w w' := by
  have HB := Lib.hid (((Below.refl w.heap.size w).alloc (Nat.le_refl _) (.cells #[.int .i64 x0, .int .i64 x1] 44)).alloc ((Below.refl w.heap.size w).alloc (Nat.le_refl _) (.cells #[.int .i64 x0, .int .i64 x1] 44)).size (.cells #[.int .i64 y0, .int .i64 y1] 44))
  go_enter Tryz.func16, Tryz.ntmps16
  go_wp2_with fail
  refine (cmpI_any x0 y0 _).mono ?_
  rintro e w2 ⟨rfl, rfl⟩
  go_wp2_with fail
  go_ret
  exact ⟨rfl, HB.out⟩

set_option maxRecDepth 100000 in
theorem byO_any (x0 y0 : Int) (x1 y1 : Int) (x2 y2 : Int) (w : World) : Calls Tryz.prog 31 #[.agg #[.int .i64 x0, .int .i64 x1, .int .i64 x2], .agg #[.int .i64 y0, .int .i64 y1, .int .i64 y2]] w fun e w' => e = .returned (.int .i64 (cmp3 x0 y0)) ∧ Below w.heap.size w w' := by
  have HB := Lib.hid (((Below.refl w.heap.size w).alloc (Nat.le_refl _) (.cells #[.int .i64 x0, .int .i64 x1, .int .i64 x2] 28)).alloc ((Below.refl w.heap.size w).alloc (Nat.le_refl _) (.cells #[.int .i64 x0, .int .i64 x1, .int .i64 x2] 28)).size (.cells #[.int .i64 y0, .int .i64 y1, .int .i64 y2] 28))
  go_enter Tryz.func31, Tryz.ntmps31
  go_wp2_with fail
  refine (cmpI_any x0 y0 _).mono ?_
  rintro e w2 ⟨rfl, rfl⟩
  go_wp2_with fail
  go_ret
  exact ⟨rfl, HB.out⟩

set_option maxRecDepth 100000 in
theorem byE_any (x0 y0 : ByteArray) (x1 y1 : Int) (x2 y2 : ByteArray) (x3 y3 : Int) (x4 y4 : Int) (x5 y5 : Int) (x6 y6 : Int) (x7 y7 : Int) (x8 y8 : Int) (w : World) : Calls Tryz.prog 14 #[.agg #[.string x0, .int .i64 x1, .string x2, .int .i64 x3, .int .i64 x4, .int .i64 x5, .int .i64 x6, .int .u32 x7, .int .i64 x8], .agg #[.string y0, .int .i64 y1, .string y2, .int .i64 y3, .int .i64 y4, .int .i64 y5, .int .i64 y6, .int .u32 y7, .int .i64 y8]] w fun e w' => e = .returned (.int .i64 (cmpS x0 y0)) ∧ Below w.heap.size w w' := by
  have HB := Lib.hid (((Below.refl w.heap.size w).alloc (Nat.le_refl _) (.cells #[.string x0, .int .i64 x1, .string x2, .int .i64 x3, .int .i64 x4, .int .i64 x5, .int .i64 x6, .int .u32 x7, .int .i64 x8] 33)).alloc ((Below.refl w.heap.size w).alloc (Nat.le_refl _) (.cells #[.string x0, .int .i64 x1, .string x2, .int .i64 x3, .int .i64 x4, .int .i64 x5, .int .i64 x6, .int .u32 x7, .int .i64 x8] 33)).size (.cells #[.string y0, .int .i64 y1, .string y2, .int .i64 y3, .int .i64 y4, .int .i64 y5, .int .i64 y6, .int .u32 y7, .int .i64 y8] 33))
  go_enter Tryz.func14, Tryz.ntmps14
  go_wp2_with fail
  refine (cmpS_any x0 y0 _).mono ?_
  rintro e w2 ⟨rfl, rfl⟩
  go_wp2_with fail
  go_ret
  exact ⟨rfl, HB.out⟩

/-- what look answers -/
def LkM (l : List (Int × Int)) (y0 : Int) (e : Ending) : Prop := e = .returned (.tuple #[.agg (MarkS.f ((l.find? fun x => decide (x.1 = y0)).getD MarkS.z)).toArray, .bool (l.find? fun x => decide (x.1 = y0)).isSome])
set_option maxRecDepth 100000 in
set_option maxHeartbeats 4000000 in
theorem lookM_any {w : World} {a : Option Addr} {n c : Nat} {l : List (Int × Int)} (h : VecAt MarkS w a n c l) (y0 : Int) (y1 : Int) :
    Calls Tryz.prog 15 #[.slice a n c, .agg #[.int .i64 y0, .int .i64 y1], .func (.func 16) #[] #[]] w fun e w' => LkM l y0 e ∧ Below w.heap.size w w' := by
  have hcap := h.cap
  have hcm := h.capm
  have HH := Lib.hid h
  have HL := Lib.hid h.len
  obtain ⟨wa, hwa⟩ : ∃ wa, wa = w.alloc (.cells #[.int .i64 y0, .int .i64 y1] 44) := ⟨_, rfl⟩
  obtain ⟨wb, hwb⟩ : ∃ wb, wb = wa.alloc (.cells #[.int .i64 0, .int .i64 0] 44) := ⟨_, rfl⟩
  have sa : wa.heap.size = w.heap.size + 1 := by rw [hwa]; exact Array.size_push _
  have sb : wb.heap.size = w.heap.size + 2 := by rw [hwb]; show (wa.heap.push _).size = _; rw [Array.size_push, sa]
  have ba : Below w.heap.size w wa := by rw [hwa]; exact (Below.refl _ _).alloc (Nat.le_refl _) _
  have bb : Below w.heap.size w wb := by rw [hwb]; exact ba.alloc ba.size _
  have gb : wb.heap[w.heap.size + 1]? = some (.cells #[.int .i64 0, .int .i64 0] 44 (0, 0)) := by rw [hwb, ← sa]; exact heap_alloc_new _ _
  have ga : wb.heap[w.heap.size]? = some (.cells #[.int .i64 y0, .int .i64 y1] 44 (0, 0)) := by rw [hwb, heap_alloc_old _ _ (by omega), hwa]; exact heap_alloc_new _ _
  have HBB := Lib.hid bb
  have HGB := Lib.hid gb
  have HC4 := Lib.hid (show ∀ i u, (#[.int .i64 y0, .int .i64 y1] : Array Value)[i]? = some u → wb.cell? ⟨w.heap.size, i, none⟩ = some u from fun i u hu => cell_blk ga hu)
  have HL4 := Lib.hid (show w.heap.size < wb.heap.size by omega)
  have HSB := Lib.hid sb
  have HWB := Lib.hid (show wb = (w.alloc (.cells #[.int .i64 y0, .int .i64 y1] 44)).alloc (.cells #[.int .i64 0, .int .i64 0] 44) by rw [hwb, hwa])
  clear h hwa hwb sa sb ba bb gb ga
  go_enter Tryz.func15, Tryz.ntmps15
  go_wp2_with fail
  rw [← HWB.out]
  go_loopw [9, 13] (fun s9 s13 wr => ∃ k : Nat, k ≤ n ∧ s13 = .int .i64 (k : Int) ∧ Hid (∀ j, j < k → (fun x => decide (x.1 = y0)) (l.getD j MarkS.z) = false) ∧ Hid (Below wb.heap.size wb wr)) (fun _ s13 _ => n - (intOf s13).toNat)
  case atStart => exact ⟨0, by omega, rfl, Lib.hid (fun j hj => by omega), Lib.hid (Below.refl _ _)⟩
  case round =>
    obtain ⟨k, hk, rfl, HN, HB⟩ := hrel
    rename World => wr
    have hl4 : w.heap.size < wr.heap.size := Nat.lt_of_lt_of_le HL4.out HB.out.size
    have q0 : wr.cell? ⟨w.heap.size, 0, none⟩ = some (.int .i64 y0) := (HB.out.cell (p := ⟨w.heap.size, 0, none⟩) HL4.out).trans (HC4.out 0 _ rfl)
    have q1 : wr.cell? ⟨w.heap.size, 1, none⟩ = some (.int .i64 y1) := (HB.out.cell (p := ⟨w.heap.size, 1, none⟩) HL4.out).trans (HC4.out 1 _ rfl)
    by_cases hkn : k < n
    · have hki : (k : Int) < (n : Int) := by omega
      obtain ⟨sb, so, rfl, hsl, _, hsc9⟩ := (HH.out.kept (HBB.out.trans (HB.out.mono HBB.out.size))).get hkn
      obtain ⟨s, hse⟩ : ∃ s, s = l.getD k MarkS.z := ⟨_, rfl⟩
      rw [← hse] at hsc9
      have HSE := Lib.hid hse
      obtain ⟨x0, x1⟩ := s
      have d0 : wr.cell? ⟨sb, so + k * 2, none⟩ = some (.int .i64 x0) := hsc9 0 _ rfl
      have d1 : wr.cell? ⟨sb, so + k * 2 + 1, none⟩ = some (.int .i64 x1) := hsc9 1 _ rfl
      have HAL := Lib.hid (show Below wb.heap.size wb (wr.alloc (.cells #[.int .i64 x0, .int .i64 x1] 44)) from HB.out.alloc HB.out.size _)
      have HXA := Lib.hid (heap_alloc_new wr (.cells #[.int .i64 x0, .int .i64 x1] 44))
      have HCM := Lib.hid (byM_any x0 y0 x1 y1 (wr.alloc (.cells #[.int .i64 x0, .int .i64 x1] 44)))
      clear hsc9 hse hsl
      go_wp2_with fail
      refine HCM.out.mono ?_
      rintro e w3 ⟨rfl, hb3⟩
      have HB3 := Lib.hid (HAL.out.trans (hb3.mono HAL.out.size))
      have HX3 := Lib.hid ((hb3.block wr.heap.size (by have := (Array.getElem?_eq_some_iff.1 HXA.out).1; exact this)).trans HXA.out)
      clear hb3
      by_cases hxy : x0 = y0
      · have hz : cmp3 x0 y0 = 0 := cmp3_0.2 hxy
        have HR3 := Lib.hid ((HB3.out.block (w.heap.size + 1) (by have := HSB.out; omega)).trans HGB.out)
        have HF := Lib.hid (show l.find? (fun x => decide (x.1 = y0)) = some ⟨x0, x1⟩ from by
          rw [HSE.out]
          exact find_at _ MarkS.z l k (by rw [HL.out]; exact hkn) HN.out (by rw [← HSE.out]; exact decide_eq_true hxy))
        have e0 : w3.cell? ⟨wr.heap.size, 0, none⟩ = some (.int .i64 x0) := cell_blk HX3.out rfl
        have e1 : w3.cell? ⟨wr.heap.size, 1, none⟩ = some (.int .i64 x1) := cell_blk HX3.out rfl
        have r0 : w3.cell? ⟨w.heap.size + 1, 0, none⟩ = some (.int .i64 0) := cell_blk HR3.out rfl
        have r1 : w3.cell? ⟨w.heap.size + 1, 1, none⟩ = some (.int .i64 0) := cell_blk HR3.out rfl
        have f0 : w3.frozen? ⟨w.heap.size + 1, 0, none⟩ = false := fro_blk HR3.out 0
        have f1 : w3.frozen? ⟨w.heap.size + 1, 1, none⟩ = false := fro_blk HR3.out 1
        clear hxy
        go_wp2_with fail
        refine bodyPost_ret (ret_cell_tmp rfl _ _ (w.heap.size + 1) 44 #[.int .i64 x0, .int .i64 x1] _ _ rfl (setM HR3.out x0 x1) Tryz.underlying44 rfl (by kernel_rfl)) rfl ?_
        refine ⟨?_, HBB.out.trans (belowM (HB3.out.mono HBB.out.size) (by omega) x0 x1)⟩
        unfold LkM
        rw [HF.out]
        rfl
      · have hz : ((cmp3 x0 y0) == 0) = false := by rw [beq_eq_false_iff_ne]; exact fun e => hxy (cmp3_0.1 e)
        have HN2 := Lib.hid (show ∀ j, j < k + 1 → (fun x => decide (x.1 = y0)) (l.getD j MarkS.z) = false from fun j hj => by
          rcases Nat.lt_or_ge j k with g | g
          · exact HN.out j g
          · rw [show j = k from by omega, ← HSE.out]; exact decide_eq_false hxy)
        clear hxy
        go_wp2_with fail
        go_roundw
        case rel => exact ⟨k + 1, by omega, by go_num, HN2, HB3⟩
        case measure => simp [intOf]; omega
    · obtain rfl : n = k := by omega
      have HRN0 := Lib.hid ((HB.out.block (w.heap.size + 1) (by have := HSB.out; omega)).trans HGB.out)
      have HF := Lib.hid (show l.find? (fun x => decide (x.1 = y0)) = none from find_no _ MarkS.z l (by rw [HL.out]; exact HN.out))
      have hl5 : w.heap.size + 1 < wr.heap.size := by have := HSB.out; have := HB.out.size; omega
      have r0 : wr.cell? ⟨w.heap.size + 1, 0, none⟩ = some (.int .i64 0) := cell_blk HRN0.out rfl
      have r1 : wr.cell? ⟨w.heap.size + 1, 1, none⟩ = some (.int .i64 0) := cell_blk HRN0.out rfl
      have f0 : wr.frozen? ⟨w.heap.size + 1, 0, none⟩ = false := fro_blk HRN0.out 0
      have f1 : wr.frozen? ⟨w.heap.size + 1, 1, none⟩ = false := fro_blk HRN0.out 1
      clear hkn
      go_wp2_with fail
      refine bodyPost_ret (ret_cell_tmp rfl _ _ (w.heap.size + 1) 44 #[.int .i64 0, .int .i64 0] _ _ rfl ((heap_alloc_old _ _ (by simpa using hl5)).trans (setM HRN0.out 0 0)) Tryz.underlying44 rfl (by kernel_rfl)) rfl ?_
      refine ⟨?_, HBB.out.trans ((belowM (HB.out.mono HBB.out.size) (by omega) 0 0).alloc (by simp; have := HB.out.size; have := HBB.out.size; omega) _)⟩
      unfold LkM
      rw [HF.out]
      rfl

/-- what look answers -/
def LkE (l : List EntV) (y0 : ByteArray) (e : Ending) : Prop := e = .returned (.tuple #[.agg (EntS.f ((l.find? fun x => decide (x.key = y0)).getD EntS.z)).toArray, .bool (l.find? fun x => decide (x.key = y0)).isSome])
set_option maxRecDepth 100000 in
set_option maxHeartbeats 4000000 in
theorem lookE_any {w : World} {a : Option Addr} {n c : Nat} {l : List EntV} (h : VecAt EntS w a n c l) (y0 : ByteArray) (y1 : Int) (y2 : ByteArray) (y3 : Int) (y4 : Int) (y5 : Int) (y6 : Int) (y7 : Int) (y8 : Int) :
    Calls Tryz.prog 13 #[.slice a n c, .agg #[.string y0, .int .i64 y1, .string y2, .int .i64 y3, .int .i64 y4, .int .i64 y5, .int .i64 y6, .int .u32 y7, .int .i64 y8], .func (.func 14) #[] #[]] w fun e w' => LkE l y0 e ∧ Below w.heap.size w w' := by
  have hcap := h.cap
  have hcm := h.capm
  have HH := Lib.hid h
  have HL := Lib.hid h.len
  obtain ⟨wa, hwa⟩ : ∃ wa, wa = w.alloc (.cells #[.string y0, .int .i64 y1, .string y2, .int .i64 y3, .int .i64 y4, .int .i64 y5, .int .i64 y6, .int .u32 y7, .int .i64 y8] 33) := ⟨_, rfl⟩
  obtain ⟨wb, hwb⟩ : ∃ wb, wb = wa.alloc (.cells #[.string { data := #[] }, .int .i64 0, .string { data := #[] }, .int .i64 0, .int .i64 0, .int .i64 0, .int .i64 0, .int .u32 0, .int .i64 0] 33) := ⟨_, rfl⟩
  have sa : wa.heap.size = w.heap.size + 1 := by rw [hwa]; exact Array.size_push _
  have sb : wb.heap.size = w.heap.size + 2 := by rw [hwb]; show (wa.heap.push _).size = _; rw [Array.size_push, sa]
  have ba : Below w.heap.size w wa := by rw [hwa]; exact (Below.refl _ _).alloc (Nat.le_refl _) _
  have bb : Below w.heap.size w wb := by rw [hwb]; exact ba.alloc ba.size _
  have gb : wb.heap[w.heap.size + 1]? = some (.cells #[.string { data := #[] }, .int .i64 0, .string { data := #[] }, .int .i64 0, .int .i64 0, .int .i64 0, .int .i64 0, .int .u32 0, .int .i64 0] 33 (0, 0)) := by rw [hwb, ← sa]; exact heap_alloc_new _ _
  have ga : wb.heap[w.heap.size]? = some (.cells #[.string y0, .int .i64 y1, .string y2, .int .i64 y3, .int .i64 y4, .int .i64 y5, .int .i64 y6, .int .u32 y7, .int .i64 y8] 33 (0, 0)) := by rw [hwb, heap_alloc_old _ _ (by omega), hwa]; exact heap_alloc_new _ _
  have HBB := Lib.hid bb
  have HGB := Lib.hid gb
  have HC4 := Lib.hid (show ∀ i u, (#[.string y0, .int .i64 y1, .string y2, .int .i64 y3, .int .i64 y4, .int .i64 y5, .int .i64 y6, .int .u32 y7, .int .i64 y8] : Array Value)[i]? = some u → wb.cell? ⟨w.heap.size, i, none⟩ = some u from fun i u hu => cell_blk ga hu)
  have HL4 := Lib.hid (show w.heap.size < wb.heap.size by omega)
  have HSB := Lib.hid sb
  have HWB := Lib.hid (show wb = (w.alloc (.cells #[.string y0, .int .i64 y1, .string y2, .int .i64 y3, .int .i64 y4, .int .i64 y5, .int .i64 y6, .int .u32 y7, .int .i64 y8] 33)).alloc (.cells #[.string { data := #[] }, .int .i64 0, .string { data := #[] }, .int .i64 0, .int .i64 0, .int .i64 0, .int .i64 0, .int .u32 0, .int .i64 0] 33) by rw [hwb, hwa])
  clear h hwa hwb sa sb ba bb gb ga
  go_enter Tryz.func13, Tryz.ntmps13
  go_wp2_with fail
  rw [← HWB.out]
  go_loopw [9, 13] (fun s9 s13 wr => ∃ k : Nat, k ≤ n ∧ s13 = .int .i64 (k : Int) ∧ Hid (∀ j, j < k → (fun x => decide (x.key = y0)) (l.getD j EntS.z) = false) ∧ Hid (Below wb.heap.size wb wr)) (fun _ s13 _ => n - (intOf s13).toNat)
  case atStart => exact ⟨0, by omega, rfl, Lib.hid (fun j hj => by omega), Lib.hid (Below.refl _ _)⟩
  case round =>
    obtain ⟨k, hk, rfl, HN, HB⟩ := hrel
    rename World => wr
    have hl4 : w.heap.size < wr.heap.size := Nat.lt_of_lt_of_le HL4.out HB.out.size
    have q0 : wr.cell? ⟨w.heap.size, 0, none⟩ = some (.string y0) := (HB.out.cell (p := ⟨w.heap.size, 0, none⟩) HL4.out).trans (HC4.out 0 _ rfl)
    have q1 : wr.cell? ⟨w.heap.size, 1, none⟩ = some (.int .i64 y1) := (HB.out.cell (p := ⟨w.heap.size, 1, none⟩) HL4.out).trans (HC4.out 1 _ rfl)
    have q2 : wr.cell? ⟨w.heap.size, 2, none⟩ = some (.string y2) := (HB.out.cell (p := ⟨w.heap.size, 2, none⟩) HL4.out).trans (HC4.out 2 _ rfl)
    have q3 : wr.cell? ⟨w.heap.size, 3, none⟩ = some (.int .i64 y3) := (HB.out.cell (p := ⟨w.heap.size, 3, none⟩) HL4.out).trans (HC4.out 3 _ rfl)
    have q4 : wr.cell? ⟨w.heap.size, 4, none⟩ = some (.int .i64 y4) := (HB.out.cell (p := ⟨w.heap.size, 4, none⟩) HL4.out).trans (HC4.out 4 _ rfl)
    have q5 : wr.cell? ⟨w.heap.size, 5, none⟩ = some (.int .i64 y5) := (HB.out.cell (p := ⟨w.heap.size, 5, none⟩) HL4.out).trans (HC4.out 5 _ rfl)
    have q6 : wr.cell? ⟨w.heap.size, 6, none⟩ = some (.int .i64 y6) := (HB.out.cell (p := ⟨w.heap.size, 6, none⟩) HL4.out).trans (HC4.out 6 _ rfl)
    have q7 : wr.cell? ⟨w.heap.size, 7, none⟩ = some (.int .u32 y7) := (HB.out.cell (p := ⟨w.heap.size, 7, none⟩) HL4.out).trans (HC4.out 7 _ rfl)
    have q8 : wr.cell? ⟨w.heap.size, 8, none⟩ = some (.int .i64 y8) := (HB.out.cell (p := ⟨w.heap.size, 8, none⟩) HL4.out).trans (HC4.out 8 _ rfl)
    by_cases hkn : k < n
    · have hki : (k : Int) < (n : Int) := by omega
      obtain ⟨sb, so, rfl, hsl, _, hsc9⟩ := (HH.out.kept (HBB.out.trans (HB.out.mono HBB.out.size))).get hkn
      obtain ⟨s, hse⟩ : ∃ s, s = l.getD k EntS.z := ⟨_, rfl⟩
      rw [← hse] at hsc9
      have HSE := Lib.hid hse
      obtain ⟨x0, x1, x2, x3, x4, x5, x6, x7, x8⟩ := s
      have d0 : wr.cell? ⟨sb, so + k * 9, none⟩ = some (.string x0) := hsc9 0 _ rfl
      have d1 : wr.cell? ⟨sb, so + k * 9 + 1, none⟩ = some (.int .i64 x1) := hsc9 1 _ rfl
      have d2 : wr.cell? ⟨sb, so + k * 9 + 2, none⟩ = some (.string x2) := hsc9 2 _ rfl
      have d3 : wr.cell? ⟨sb, so + k * 9 + 3, none⟩ = some (.int .i64 x3) := hsc9 3 _ rfl
      have d4 : wr.cell? ⟨sb, so + k * 9 + 4, none⟩ = some (.int .i64 x4) := hsc9 4 _ rfl
      have d5 : wr.cell? ⟨sb, so + k * 9 + 5, none⟩ = some (.int .i64 x5) := hsc9 5 _ rfl
      have d6 : wr.cell? ⟨sb, so + k * 9 + 6, none⟩ = some (.int .i64 x6) := hsc9 6 _ rfl
      have d7 : wr.cell? ⟨sb, so + k * 9 + 7, none⟩ = some (.int .u32 x7) := hsc9 7 _ rfl
      have d8 : wr.cell? ⟨sb, so + k * 9 + 8, none⟩ = some (.int .i64 x8) := hsc9 8 _ rfl
      have HAL := Lib.hid (show Below wb.heap.size wb (wr.alloc (.cells #[.string x0, .int .i64 x1, .string x2, .int .i64 x3, .int .i64 x4, .int .i64 x5, .int .i64 x6, .int .u32 x7, .int .i64 x8] 33)) from HB.out.alloc HB.out.size _)
      have HXA := Lib.hid (heap_alloc_new wr (.cells #[.string x0, .int .i64 x1, .string x2, .int .i64 x3, .int .i64 x4, .int .i64 x5, .int .i64 x6, .int .u32 x7, .int .i64 x8] 33))
      have HCM := Lib.hid (byE_any x0 y0 x1 y1 x2 y2 x3 y3 x4 y4 x5 y5 x6 y6 x7 y7 x8 y8 (wr.alloc (.cells #[.string x0, .int .i64 x1, .string x2, .int .i64 x3, .int .i64 x4, .int .i64 x5, .int .i64 x6, .int .u32 x7, .int .i64 x8] 33)))
      clear hsc9 hse hsl
      go_wp2_with fail
      refine HCM.out.mono ?_
      rintro e w3 ⟨rfl, hb3⟩
      have HB3 := Lib.hid (HAL.out.trans (hb3.mono HAL.out.size))
      have HX3 := Lib.hid ((hb3.block wr.heap.size (by have := (Array.getElem?_eq_some_iff.1 HXA.out).1; exact this)).trans HXA.out)
      clear hb3
      by_cases hxy : x0 = y0
      · have hz : cmpS x0 y0 = 0 := cmpS_0.2 hxy
        have HR3 := Lib.hid ((HB3.out.block (w.heap.size + 1) (by have := HSB.out; omega)).trans HGB.out)
        have HF := Lib.hid (show l.find? (fun x => decide (x.key = y0)) = some ⟨x0, x1, x2, x3, x4, x5, x6, x7, x8⟩ from by
          rw [HSE.out]
          exact find_at _ EntS.z l k (by rw [HL.out]; exact hkn) HN.out (by rw [← HSE.out]; exact decide_eq_true hxy))
        have e0 : w3.cell? ⟨wr.heap.size, 0, none⟩ = some (.string x0) := cell_blk HX3.out rfl
        have e1 : w3.cell? ⟨wr.heap.size, 1, none⟩ = some (.int .i64 x1) := cell_blk HX3.out rfl
        have e2 : w3.cell? ⟨wr.heap.size, 2, none⟩ = some (.string x2) := cell_blk HX3.out rfl
        have e3 : w3.cell? ⟨wr.heap.size, 3, none⟩ = some (.int .i64 x3) := cell_blk HX3.out rfl
        have e4 : w3.cell? ⟨wr.heap.size, 4, none⟩ = some (.int .i64 x4) := cell_blk HX3.out rfl
        have e5 : w3.cell? ⟨wr.heap.size, 5, none⟩ = some (.int .i64 x5) := cell_blk HX3.out rfl
        have e6 : w3.cell? ⟨wr.heap.size, 6, none⟩ = some (.int .i64 x6) := cell_blk HX3.out rfl
        have e7 : w3.cell? ⟨wr.heap.size, 7, none⟩ = some (.int .u32 x7) := cell_blk HX3.out rfl
        have e8 : w3.cell? ⟨wr.heap.size, 8, none⟩ = some (.int .i64 x8) := cell_blk HX3.out rfl
        have r0 : w3.cell? ⟨w.heap.size + 1, 0, none⟩ = some (.string { data := #[] }) := cell_blk HR3.out rfl
        have r1 : w3.cell? ⟨w.heap.size + 1, 1, none⟩ = some (.int .i64 0) := cell_blk HR3.out rfl
        have r2 : w3.cell? ⟨w.heap.size + 1, 2, none⟩ = some (.string { data := #[] }) := cell_blk HR3.out rfl
        have r3 : w3.cell? ⟨w.heap.size + 1, 3, none⟩ = some (.int .i64 0) := cell_blk HR3.out rfl
        have r4 : w3.cell? ⟨w.heap.size + 1, 4, none⟩ = some (.int .i64 0) := cell_blk HR3.out rfl
        have r5 : w3.cell? ⟨w.heap.size + 1, 5, none⟩ = some (.int .i64 0) := cell_blk HR3.out rfl
        have r6 : w3.cell? ⟨w.heap.size + 1, 6, none⟩ = some (.int .i64 0) := cell_blk HR3.out rfl
        have r7 : w3.cell? ⟨w.heap.size + 1, 7, none⟩ = some (.int .u32 0) := cell_blk HR3.out rfl
        have r8 : w3.cell? ⟨w.heap.size + 1, 8, none⟩ = some (.int .i64 0) := cell_blk HR3.out rfl
        have f0 : w3.frozen? ⟨w.heap.size + 1, 0, none⟩ = false := fro_blk HR3.out 0
        have f1 : w3.frozen? ⟨w.heap.size + 1, 1, none⟩ = false := fro_blk HR3.out 1
        have f2 : w3.frozen? ⟨w.heap.size + 1, 2, none⟩ = false := fro_blk HR3.out 2
        have f3 : w3.frozen? ⟨w.heap.size + 1, 3, none⟩ = false := fro_blk HR3.out 3
        have f4 : w3.frozen? ⟨w.heap.size + 1, 4, none⟩ = false := fro_blk HR3.out 4
        have f5 : w3.frozen? ⟨w.heap.size + 1, 5, none⟩ = false := fro_blk HR3.out 5
        have f6 : w3.frozen? ⟨w.heap.size + 1, 6, none⟩ = false := fro_blk HR3.out 6
        have f7 : w3.frozen? ⟨w.heap.size + 1, 7, none⟩ = false := fro_blk HR3.out 7
        have f8 : w3.frozen? ⟨w.heap.size + 1, 8, none⟩ = false := fro_blk HR3.out 8
        clear hxy
        go_wp2_with fail
        refine bodyPost_ret (ret_cell_tmp rfl _ _ (w.heap.size + 1) 33 #[.string x0, .int .i64 x1, .string x2, .int .i64 x3, .int .i64 x4, .int .i64 x5, .int .i64 x6, .int .u32 x7, .int .i64 x8] _ _ rfl (setE HR3.out x0 x1 x2 x3 x4 x5 x6 x7 x8) Tryz.underlying33 rfl (by kernel_rfl)) rfl ?_
        refine ⟨?_, HBB.out.trans (belowE (HB3.out.mono HBB.out.size) (by omega) x0 x1 x2 x3 x4 x5 x6 x7 x8)⟩
        unfold LkE
        rw [HF.out]
        rfl
      · have hz : ((cmpS x0 y0) == 0) = false := by rw [beq_eq_false_iff_ne]; exact fun e => hxy (cmpS_0.1 e)
        have HN2 := Lib.hid (show ∀ j, j < k + 1 → (fun x => decide (x.key = y0)) (l.getD j EntS.z) = false from fun j hj => by
          rcases Nat.lt_or_ge j k with g | g
          · exact HN.out j g
          · rw [show j = k from by omega, ← HSE.out]; exact decide_eq_false hxy)
        clear hxy
        go_wp2_with fail
        go_roundw
        case rel => exact ⟨k + 1, by omega, by go_num, HN2, HB3⟩
        case measure => simp [intOf]; omega
    · obtain rfl : n = k := by omega
      have HRN0 := Lib.hid ((HB.out.block (w.heap.size + 1) (by have := HSB.out; omega)).trans HGB.out)
      have HF := Lib.hid (show l.find? (fun x => decide (x.key = y0)) = none from find_no _ EntS.z l (by rw [HL.out]; exact HN.out))
      have hl5 : w.heap.size + 1 < wr.heap.size := by have := HSB.out; have := HB.out.size; omega
      have r0 : wr.cell? ⟨w.heap.size + 1, 0, none⟩ = some (.string { data := #[] }) := cell_blk HRN0.out rfl
      have r1 : wr.cell? ⟨w.heap.size + 1, 1, none⟩ = some (.int .i64 0) := cell_blk HRN0.out rfl
      have r2 : wr.cell? ⟨w.heap.size + 1, 2, none⟩ = some (.string { data := #[] }) := cell_blk HRN0.out rfl
      have r3 : wr.cell? ⟨w.heap.size + 1, 3, none⟩ = some (.int .i64 0) := cell_blk HRN0.out rfl
      have r4 : wr.cell? ⟨w.heap.size + 1, 4, none⟩ = some (.int .i64 0) := cell_blk HRN0.out rfl
      have r5 : wr.cell? ⟨w.heap.size + 1, 5, none⟩ = some (.int .i64 0) := cell_blk HRN0.out rfl
      have r6 : wr.cell? ⟨w.heap.size + 1, 6, none⟩ = some (.int .i64 0) := cell_blk HRN0.out rfl
      have r7 : wr.cell? ⟨w.heap.size + 1, 7, none⟩ = some (.int .u32 0) := cell_blk HRN0.out rfl
      have r8 : wr.cell? ⟨w.heap.size + 1, 8, none⟩ = some (.int .i64 0) := cell_blk HRN0.out rfl
      have f0 : wr.frozen? ⟨w.heap.size + 1, 0, none⟩ = false := fro_blk HRN0.out 0
      have f1 : wr.frozen? ⟨w.heap.size + 1, 1, none⟩ = false := fro_blk HRN0.out 1
      have f2 : wr.frozen? ⟨w.heap.size + 1, 2, none⟩ = false := fro_blk HRN0.out 2
      have f3 : wr.frozen? ⟨w.heap.size + 1, 3, none⟩ = false := fro_blk HRN0.out 3
      have f4 : wr.frozen? ⟨w.heap.size + 1, 4, none⟩ = false := fro_blk HRN0.out 4
      have f5 : wr.frozen? ⟨w.heap.size + 1, 5, none⟩ = false := fro_blk HRN0.out 5
      have f6 : wr.frozen? ⟨w.heap.size + 1, 6, none⟩ = false := fro_blk HRN0.out 6
      have f7 : wr.frozen? ⟨w.heap.size + 1, 7, none⟩ = false := fro_blk HRN0.out 7
      have f8 : wr.frozen? ⟨w.heap.size + 1, 8, none⟩ = false := fro_blk HRN0.out 8
      clear hkn
      go_wp2_with fail
      refine bodyPost_ret (ret_cell_tmp rfl _ _ (w.heap.size + 1) 33 #[.string { data := #[] }, .int .i64 0, .string { data := #[] }, .int .i64 0, .int .i64 0, .int .i64 0, .int .i64 0, .int .u32 0, .int .i64 0] _ _ rfl ((heap_alloc_old _ _ (by simpa using hl5)).trans (setE HRN0.out { data := #[] } 0 { data := #[] } 0 0 0 0 0 0)) Tryz.underlying33 rfl (by kernel_rfl)) rfl ?_
      refine ⟨?_, HBB.out.trans ((belowE (HB.out.mono HBB.out.size) (by omega) { data := #[] } 0 { data := #[] } 0 0 0 0 0 0).alloc (by simp; have := HB.out.size; have := HBB.out.size; omega) _)⟩
      unfold LkE
      rw [HF.out]
      rfl

end Go.Proofs.YtmgimmbihcbkbaaGreat
