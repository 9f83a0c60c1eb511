/- Texts put together by packtpl2.py: MfB, ApM, AnyOrd, FV, FillC, MfRis. -/
import Derived.Test.YtadfmenlpnibnaaGreatPkMS1
import Derived.Deep.CutBlock
import Derived.Deep.RegionHeld3
section PkMS2_0
/- Manifests: a mark, an entry looked up, walked. Written by genmfb.py. -/
namespace Go.Proofs.YtadfmenlpnibnaaGreat
open Go.RowKit LabPlain
set_option linter.unusedVariables false

def cmp3 (x y : Int) : Int := if x < y then -1 else if y < x then 1 else 0
def cmpS (x y : ByteArray) : Int := if ltB x y = true then -1 else if ltB y x = true then 1 else 0
theorem cmp3_0 {x y : Int} : cmp3 x y = 0 ↔ x = y := by
  unfold cmp3
  by_cases h1 : x < y
  · simp [h1]; omega
  · by_cases h2 : y < x
    · simp [h1, h2]; omega
    · simp [h1, h2]; omega
theorem txt_ne {x y : ByteArray} (h : x ≠ y) : (x.toList == y.toList) = false := by
  rw [beq_eq_false_iff_ne]
  exact fun e => h (ByteArray.ext (Array.toList_inj.1 (by rw [← ByteArray.toList_eq, ← ByteArray.toList_eq]; exact e)))
theorem ltB_total' {x y : ByteArray} (h : ltB x y = false) (h2 : ltB y x = false) : x = y := by
  have h1 := leq_not y x
  rw [h] at h1
  simp only [Bool.not_false, Bool.or_eq_true, beq_iff_eq] at h1
  rcases h1 with g | g
  · have : ltB y x = true := g
    rw [h2] at this; cases this
  · exact (ByteArray.ext (Array.toList_inj.1 (by rw [← ByteArray.toList_eq, ← ByteArray.toList_eq]; exact g))).symm
theorem nan_any (x : Int) (w : World) : Calls Tryz.prog 80 #[.int .i64 x] w fun e w' => e = .returned (.bool false) ∧ w' = w := by
  have z : (x != x) = false := by simp
  go_enter Tryz.func80, Tryz.ntmps80
  go_wp2_with fail
  go_ret
  exact ⟨rfl, rfl⟩
theorem nanS_any (x : ByteArray) (w : World) : Calls Tryz.prog 73 #[.string x] w fun e w' => e = .returned (.bool false) ∧ w' = w := by
  have z : (x.toList == x.toList) = true := by simp
  go_enter Tryz.func73, Tryz.ntmps73
  go_wp2_with fail
  go_ret
  exact ⟨rfl, rfl⟩

theorem cmpI_any (x y : Int) (w : World) : Calls Tryz.prog 62 #[.int .i64 x, .int .i64 y] w fun e w' => e = .returned (.int .i64 (cmp3 x y)) ∧ w' = w := by
  rcases Int.lt_trichotomy x y with h | h | h
  · have hh : ¬ y < x := by omega
    go_enter Tryz.func62, Tryz.ntmps62
    go_wp2_with fail
    refine (nan_any x w).mono ?_
    rintro e w2 ⟨rfl, rfl⟩
    go_wp2_with fail
    refine (nan_any y w2).mono ?_
    rintro e w3 ⟨rfl, rfl⟩
    go_wp2_with fail
    go_ret
    exact ⟨by simp [cmp3, h], rfl⟩
  · subst h
    go_enter Tryz.func62, Tryz.ntmps62
    go_wp2_with fail
    refine (nan_any x w).mono ?_
    rintro e w2 ⟨rfl, rfl⟩
    go_wp2_with fail
    refine (nan_any x w2).mono ?_
    rintro e w3 ⟨rfl, rfl⟩
    go_wp2_with fail
    go_ret
    exact ⟨by simp [cmp3], rfl⟩
  · have hh : ¬ x < y := by omega
    go_enter Tryz.func62, Tryz.ntmps62
    go_wp2_with fail
    refine (nan_any x w).mono ?_
    rintro e w2 ⟨rfl, rfl⟩
    go_wp2_with fail
    refine (nan_any y w2).mono ?_
    rintro e w3 ⟨rfl, rfl⟩
    go_wp2_with fail
    go_ret
    exact ⟨by simp [cmp3, h, hh], rfl⟩
theorem cmpS_any (x y : ByteArray) (w : World) : Calls Tryz.prog 53 #[.string x, .string y] w fun e w' => e = .returned (.int .i64 (cmpS x y)) ∧ w' = w := by
  cases h1 : ltB x y with
  | true =>
    have b1 : Op.bytesLess x.toList y.toList = true := h1
    have HE := Lib.hid h1
    clear h1
    go_enter Tryz.func53, Tryz.ntmps53
    go_wp2_with fail
    refine (nanS_any x w).mono ?_
    rintro e w2 ⟨rfl, rfl⟩
    go_wp2_with fail
    refine (nanS_any y w2).mono ?_
    rintro e w3 ⟨rfl, rfl⟩
    go_wp2_with fail
    go_ret
    exact ⟨by unfold cmpS; rw [if_pos HE.out]; rfl, rfl⟩
  | false =>
    have b1 : Op.bytesLess x.toList y.toList = false := h1
    have HE := Lib.hid h1
    clear h1
    cases h2 : ltB y x with
    | true =>
      have b2 : Op.bytesLess y.toList x.toList = true := h2
      have heq : (x.toList == y.toList) = false := txt_ne (fun e => by rw [e, ltB_irrefl] at h2; cases h2)
      have HE2 := Lib.hid h2
      clear h2
      go_enter Tryz.func53, Tryz.ntmps53
      go_wp2_with fail
      refine (nanS_any x w).mono ?_
      rintro e w2 ⟨rfl, rfl⟩
      go_wp2_with fail
      refine (nanS_any y w2).mono ?_
      rintro e w3 ⟨rfl, rfl⟩
      go_wp2_with fail
      go_ret
      exact ⟨by unfold cmpS; rw [if_neg (by rw [HE.out]; simp), if_pos HE2.out]; rfl, rfl⟩
    | false =>
      have b2 : Op.bytesLess y.toList x.toList = false := h2
      have heq : (x.toList == y.toList) = true := by rw [ltB_total' HE.out h2]; simp
      have HE2 := Lib.hid h2
      clear h2
      go_enter Tryz.func53, Tryz.ntmps53
      go_wp2_with fail
      refine (nanS_any x w).mono ?_
      rintro e w2 ⟨rfl, rfl⟩
      go_wp2_with fail
      refine (nanS_any y w2).mono ?_
      rintro e w3 ⟨rfl, rfl⟩
      go_wp2_with fail
      go_ret
      exact ⟨by unfold cmpS; rw [if_neg (by rw [HE.out]; simp), if_neg (by rw [HE2.out]; simp)]; rfl, rfl⟩
theorem cmpS_0 {x y : ByteArray} : cmpS x y = 0 ↔ x = y := by
  unfold cmpS
  constructor
  · intro h
    split at h
    · cases h
    · split at h
      · cases h
      · rename_i h1 h2
        exact ltB_total' (by simpa using h1) (by simpa using h2)
  · intro h
    rw [h, ltB_irrefl]; rfl
theorem find_at {α : Type} (p : α → Bool) (d : α) : ∀ (l : List α) (k : Nat), k < l.length → (∀ j, j < k → p (l.getD j d) = false) → p (l.getD k d) = true → l.find? p = some (l.getD k d)
  | x :: l, 0, _, _, h => by
    have h' : p x = true := h
    rw [List.find?_cons, h']; rfl
  | x :: l, k + 1, hk, h1, h => by
    have hx : p x = false := h1 0 (by omega)
    rw [List.find?_cons, hx]
    exact find_at p d l k (by simpa using hk) (fun j hj => h1 (j + 1) (by omega)) h
theorem find_no {α : Type} (p : α → Bool) (d : α) : ∀ (l : List α), (∀ j, j < l.length → p (l.getD j d) = false) → l.find? p = none
  | [], _ => rfl
  | x :: l, h => by
    have hx : p x = false := h 0 (by simp)
    rw [List.find?_cons, hx]
    exact find_no p d l (fun j hj => h (j + 1) (by simpa using hj))
theorem hao9 (w : World) (o : Obj) (i : Nat) (h : i < w.heap.size) : (w.alloc o).heap[i]? = w.heap[i]? := by
  show (w.heap.push o)[i]? = _
  rw [Array.getElem?_push]
  simp [Nat.ne_of_lt h]
theorem heap_set {w : World} {B : Nat} {cur : Array Value} {t : TypeId} (g : w.heap[B]? = some (.cells cur t (0, 0))) (i : Nat) (u : Value) : (w.setCell ⟨B, i, none⟩ u).heap[B]? = some (.cells (cur.setIfInBounds i u) t (0, 0)) := heap_setCell_same w B i cur t u g
theorem cell_blk {w : World} {B : Nat} {cur : Array Value} {t : TypeId} (g : w.heap[B]? = some (.cells cur t (0, 0))) {i : Nat} {u : Value} (h : cur[i]? = some u) : w.cell? ⟨B, i, none⟩ = some u := by rw [cell_of_row w _ _ _ _ (0, 0) g]; exact h
theorem fro_blk {w : World} {B : Nat} {cur : Array Value} {t : TypeId} (g : w.heap[B]? = some (.cells cur t (0, 0))) (i : Nat) : w.frozen? ⟨B, i, none⟩ = false := by simp [World.frozen?, g]
theorem ret_cell_tmp {P : Program} {fn : Func} {p u : Tmp} {ty : TypeId} (h : fn.results = #[.cell p ty, .tmp u]) (tmps : Array Value) (w : World) (g : Nat) (t : TypeId) (cs : Array Value) (fr : Nat × Nat) (d : TypeDesc)
    (hp : tmps.getD p undef = .pointer (some ⟨g, 0, none⟩)) (hg : w.heap[g]? = some (.cells cs t fr))
    (hu : P.underlying ty = some d) (hd : (match d with | .struct _ | .array _ _ => true | _ => false) = true) (hi : (P.info? ty).map (·.size) = some cs.size) :
    (results fn tmps).run P w = .ok (.tuple #[.agg cs, tmps.getD u undef]) w := by
  rw [results_cell_tmp h]
  have hp' : tmps[p]?.getD undef = .pointer (some ⟨g, 0, none⟩) := by simpa using hp
  simp [hp', asAddr, run_loadVar_row w g t ty cs fr d hg hu hd hi, Result.andThen]

theorem setM {v : World} {R : Nat} {c0 c1 : Value} {t : TypeId} (g : v.heap[R]? = some (.cells #[c0, c1] t (0, 0))) (x0 : Int) (x1 : Int) : ((v.setCell ⟨R, 0, none⟩ (.int .i64 x0)).setCell ⟨R, 1, none⟩ (.int .i64 x1)).heap[R]? = some (.cells #[.int .i64 x0, .int .i64 x1] t (0, 0)) := by
  have h := heap_set (heap_set (g) 0 (.int .i64 x0)) 1 (.int .i64 x1)
  simp only [List.setIfInBounds_toArray, List.set_cons_zero, List.set_cons_succ] at h
  exact h
theorem belowM {B R : Nat} {w v : World} (h : Below B w v) (hR : B ≤ R) (x0 : Int) (x1 : Int) : Below B w ((v.setCell ⟨R, 0, none⟩ (.int .i64 x0)).setCell ⟨R, 1, none⟩ (.int .i64 x1)) :=
  ((((h).setCell (p := ⟨R, 0, none⟩) hR (.int .i64 x0))).setCell (p := ⟨R, 1, none⟩) hR (.int .i64 x1))

theorem setO {v : World} {R : Nat} {c0 c1 c2 : Value} {t : TypeId} (g : v.heap[R]? = some (.cells #[c0, c1, c2] t (0, 0))) (x0 : Int) (x1 : Int) (x2 : Int) : (((v.setCell ⟨R, 0, none⟩ (.int .i64 x0)).setCell ⟨R, 1, none⟩ (.int .i64 x1)).setCell ⟨R, 2, none⟩ (.int .i64 x2)).heap[R]? = some (.cells #[.int .i64 x0, .int .i64 x1, .int .i64 x2] t (0, 0)) := by
  have h := heap_set (heap_set (heap_set (g) 0 (.int .i64 x0)) 1 (.int .i64 x1)) 2 (.int .i64 x2)
  simp only [List.setIfInBounds_toArray, List.set_cons_zero, List.set_cons_succ] at h
  exact h
theorem belowO {B R : Nat} {w v : World} (h : Below B w v) (hR : B ≤ R) (x0 : Int) (x1 : Int) (x2 : Int) : Below B w (((v.setCell ⟨R, 0, none⟩ (.int .i64 x0)).setCell ⟨R, 1, none⟩ (.int .i64 x1)).setCell ⟨R, 2, none⟩ (.int .i64 x2)) :=
  ((((((h).setCell (p := ⟨R, 0, none⟩) hR (.int .i64 x0))).setCell (p := ⟨R, 1, none⟩) hR (.int .i64 x1))).setCell (p := ⟨R, 2, none⟩) hR (.int .i64 x2))

theorem setE {v : World} {R : Nat} {c0 c1 c2 c3 c4 c5 c6 c7 c8 : Value} {t : TypeId} (g : v.heap[R]? = some (.cells #[c0, c1, c2, c3, c4, c5, c6, c7, c8] t (0, 0))) (x0 : ByteArray) (x1 : Int) (x2 : ByteArray) (x3 : Int) (x4 : Int) (x5 : Int) (x6 : Int) (x7 : Int) (x8 : Int) : (((((((((v.setCell ⟨R, 0, none⟩ (.string x0)).setCell ⟨R, 1, none⟩ (.int .i64 x1)).setCell ⟨R, 2, none⟩ (.string x2)).setCell ⟨R, 3, none⟩ (.int .i64 x3)).setCell ⟨R, 4, none⟩ (.int .i64 x4)).setCell ⟨R, 5, none⟩ (.int .i64 x5)).setCell ⟨R, 6, none⟩ (.int .i64 x6)).setCell ⟨R, 7, none⟩ (.int .u32 x7)).setCell ⟨R, 8, none⟩ (.int .i64 x8)).heap[R]? = some (.cells #[.string x0, .int .i64 x1, .string x2, .int .i64 x3, .int .i64 x4, .int .i64 x5, .int .i64 x6, .int .u32 x7, .int .i64 x8] t (0, 0)) := by
  have h := heap_set (heap_set (heap_set (heap_set (heap_set (heap_set (heap_set (heap_set (heap_set (g) 0 (.string x0)) 1 (.int .i64 x1)) 2 (.string x2)) 3 (.int .i64 x3)) 4 (.int .i64 x4)) 5 (.int .i64 x5)) 6 (.int .i64 x6)) 7 (.int .u32 x7)) 8 (.int .i64 x8)
  simp only [List.setIfInBounds_toArray, List.set_cons_zero, List.set_cons_succ] at h
  exact h
theorem belowE {B R : Nat} {w v : World} (h : Below B w v) (hR : B ≤ R) (x0 : ByteArray) (x1 : Int) (x2 : ByteArray) (x3 : Int) (x4 : Int) (x5 : Int) (x6 : Int) (x7 : Int) (x8 : Int) : Below B w (((((((((v.setCell ⟨R, 0, none⟩ (.string x0)).setCell ⟨R, 1, none⟩ (.int .i64 x1)).setCell ⟨R, 2, none⟩ (.string x2)).setCell ⟨R, 3, none⟩ (.int .i64 x3)).setCell ⟨R, 4, none⟩ (.int .i64 x4)).setCell ⟨R, 5, none⟩ (.int .i64 x5)).setCell ⟨R, 6, none⟩ (.int .i64 x6)).setCell ⟨R, 7, none⟩ (.int .u32 x7)).setCell ⟨R, 8, none⟩ (.int .i64 x8)) :=
  ((((((((((((((((((h).setCell (p := ⟨R, 0, none⟩) hR (.string x0))).setCell (p := ⟨R, 1, none⟩) hR (.int .i64 x1))).setCell (p := ⟨R, 2, none⟩) hR (.string x2))).setCell (p := ⟨R, 3, none⟩) hR (.int .i64 x3))).setCell (p := ⟨R, 4, none⟩) hR (.int .i64 x4))).setCell (p := ⟨R, 5, none⟩) hR (.int .i64 x5))).setCell (p := ⟨R, 6, none⟩) hR (.int .i64 x6))).setCell (p := ⟨R, 7, none⟩) hR (.int .u32 x7))).setCell (p := ⟨R, 8, none⟩) hR (.int .i64 x8))

set_option maxRecDepth 100000 in
theorem byM_any (x0 y0 : Int) (x1 y1 : Int) (w : World) : Calls Tryz.prog 31 #[.agg #[.int .i64 x0, .int .i64 x1], .agg #[.int .i64 y0, .int .i64 y1]] w fun e w' => e = .returned (.int .i64 (cmp3 x0 y0)) ∧ Below w.heap.size w w' := by
  have HB := Lib.hid (((Below.refl w.heap.size w).alloc (Nat.le_refl _) (.cells #[.int .i64 x0, .int .i64 x1] 44)).alloc ((Below.refl w.heap.size w).alloc (Nat.le_refl _) (.cells #[.int .i64 x0, .int .i64 x1] 44)).size (.cells #[.int .i64 y0, .int .i64 y1] 44))
  go_enter Tryz.func31, Tryz.ntmps31
  go_wp2_with fail
  refine (cmpI_any x0 y0 _).mono ?_
  rintro e w2 ⟨rfl, rfl⟩
  go_wp2_with fail
  go_ret
  exact ⟨rfl, HB.out⟩

set_option maxRecDepth 100000 in
theorem byO_any (x0 y0 : Int) (x1 y1 : Int) (x2 y2 : Int) (w : World) : Calls Tryz.prog 34 #[.agg #[.int .i64 x0, .int .i64 x1, .int .i64 x2], .agg #[.int .i64 y0, .int .i64 y1, .int .i64 y2]] w fun e w' => e = .returned (.int .i64 (cmp3 x0 y0)) ∧ Below w.heap.size w w' := by
  have HB := Lib.hid (((Below.refl w.heap.size w).alloc (Nat.le_refl _) (.cells #[.int .i64 x0, .int .i64 x1, .int .i64 x2] 29)).alloc ((Below.refl w.heap.size w).alloc (Nat.le_refl _) (.cells #[.int .i64 x0, .int .i64 x1, .int .i64 x2] 29)).size (.cells #[.int .i64 y0, .int .i64 y1, .int .i64 y2] 29))
  go_enter Tryz.func34, Tryz.ntmps34
  go_wp2_with fail
  refine (cmpI_any x0 y0 _).mono ?_
  rintro e w2 ⟨rfl, rfl⟩
  go_wp2_with fail
  go_ret
  exact ⟨rfl, HB.out⟩

set_option maxRecDepth 100000 in
theorem byE_any (x0 y0 : ByteArray) (x1 y1 : Int) (x2 y2 : ByteArray) (x3 y3 : Int) (x4 y4 : Int) (x5 y5 : Int) (x6 y6 : Int) (x7 y7 : Int) (x8 y8 : Int) (w : World) : Calls Tryz.prog 28 #[.agg #[.string x0, .int .i64 x1, .string x2, .int .i64 x3, .int .i64 x4, .int .i64 x5, .int .i64 x6, .int .u32 x7, .int .i64 x8], .agg #[.string y0, .int .i64 y1, .string y2, .int .i64 y3, .int .i64 y4, .int .i64 y5, .int .i64 y6, .int .u32 y7, .int .i64 y8]] w fun e w' => e = .returned (.int .i64 (cmpS x0 y0)) ∧ Below w.heap.size w w' := by
  have HB := Lib.hid (((Below.refl w.heap.size w).alloc (Nat.le_refl _) (.cells #[.string x0, .int .i64 x1, .string x2, .int .i64 x3, .int .i64 x4, .int .i64 x5, .int .i64 x6, .int .u32 x7, .int .i64 x8] 42)).alloc ((Below.refl w.heap.size w).alloc (Nat.le_refl _) (.cells #[.string x0, .int .i64 x1, .string x2, .int .i64 x3, .int .i64 x4, .int .i64 x5, .int .i64 x6, .int .u32 x7, .int .i64 x8] 42)).size (.cells #[.string y0, .int .i64 y1, .string y2, .int .i64 y3, .int .i64 y4, .int .i64 y5, .int .i64 y6, .int .u32 y7, .int .i64 y8] 42))
  go_enter Tryz.func28, Tryz.ntmps28
  go_wp2_with fail
  refine (cmpS_any x0 y0 _).mono ?_
  rintro e w2 ⟨rfl, rfl⟩
  go_wp2_with fail
  go_ret
  exact ⟨rfl, HB.out⟩

/-- what look answers -/
def LkM (l : List (Int × Int)) (y0 : Int) (e : Ending) : Prop := e = .returned (.tuple #[.agg (MarkS.f ((l.find? fun x => decide (x.1 = y0)).getD MarkS.z)).toArray, .bool (l.find? fun x => decide (x.1 = y0)).isSome])
set_option maxRecDepth 100000 in
set_option maxHeartbeats 4000000 in
theorem lookM_any {w : World} {a : Option Addr} {n c : Nat} {l : List (Int × Int)} (h : VecAt MarkS w a n c l) (y0 : Int) (y1 : Int) :
    Calls Tryz.prog 38 #[.slice a n c, .agg #[.int .i64 y0, .int .i64 y1], .func (.func 31) #[] #[]] w fun e w' => LkM l y0 e ∧ Below w.heap.size w w' := by
  have hcap := h.cap
  have hcm := h.capm
  have HH := Lib.hid h
  have HL := Lib.hid h.len
  obtain ⟨wa, hwa⟩ : ∃ wa, wa = w.alloc (.cells #[.int .i64 y0, .int .i64 y1] 44) := ⟨_, rfl⟩
  obtain ⟨wb, hwb⟩ : ∃ wb, wb = wa.alloc (.cells #[.int .i64 0, .int .i64 0] 44) := ⟨_, rfl⟩
  have sa : wa.heap.size = w.heap.size + 1 := by rw [hwa]; exact Array.size_push _
  have sb : wb.heap.size = w.heap.size + 2 := by rw [hwb]; show (wa.heap.push _).size = _; rw [Array.size_push, sa]
  have ba : Below w.heap.size w wa := by rw [hwa]; exact (Below.refl _ _).alloc (Nat.le_refl _) _
  have bb : Below w.heap.size w wb := by rw [hwb]; exact ba.alloc ba.size _
  have gb : wb.heap[w.heap.size + 1]? = some (.cells #[.int .i64 0, .int .i64 0] 44 (0, 0)) := by rw [hwb, ← sa]; exact heap_alloc_new _ _
  have ga : wb.heap[w.heap.size]? = some (.cells #[.int .i64 y0, .int .i64 y1] 44 (0, 0)) := by rw [hwb, hao9 _ _ _ (by omega), hwa]; exact heap_alloc_new _ _
  have HBB := Lib.hid bb
  have HGB := Lib.hid gb
  have HC4 := Lib.hid (show ∀ i u, (#[.int .i64 y0, .int .i64 y1] : Array Value)[i]? = some u → wb.cell? ⟨w.heap.size, i, none⟩ = some u from fun i u hu => cell_blk ga hu)
  have HL4 := Lib.hid (show w.heap.size < wb.heap.size by omega)
  have HSB := Lib.hid sb
  have HWB := Lib.hid (show wb = (w.alloc (.cells #[.int .i64 y0, .int .i64 y1] 44)).alloc (.cells #[.int .i64 0, .int .i64 0] 44) by rw [hwb, hwa])
  clear h hwa hwb sa sb ba bb gb ga
  go_enter Tryz.func38, Tryz.ntmps38
  go_wp2_with fail
  rw [← HWB.out]
  go_loopw [9, 13] (fun s9 s13 wr => ∃ k : Nat, k ≤ n ∧ s13 = .int .i64 (k : Int) ∧ Hid (∀ j, j < k → (fun x => decide (x.1 = y0)) (l.getD j MarkS.z) = false) ∧ Hid (Below wb.heap.size wb wr)) (fun _ s13 _ => n - (intOf s13).toNat)
  case atStart => exact ⟨0, by omega, rfl, Lib.hid (fun j hj => by omega), Lib.hid (Below.refl _ _)⟩
  case round =>
    obtain ⟨k, hk, rfl, HN, HB⟩ := hrel
    rename World => wr
    have hl4 : w.heap.size < wr.heap.size := Nat.lt_of_lt_of_le HL4.out HB.out.size
    have q0 : wr.cell? ⟨w.heap.size, 0, none⟩ = some (.int .i64 y0) := (HB.out.cell (p := ⟨w.heap.size, 0, none⟩) HL4.out).trans (HC4.out 0 _ rfl)
    have q1 : wr.cell? ⟨w.heap.size, 1, none⟩ = some (.int .i64 y1) := (HB.out.cell (p := ⟨w.heap.size, 1, none⟩) HL4.out).trans (HC4.out 1 _ rfl)
    by_cases hkn : k < n
    · have hki : (k : Int) < (n : Int) := by omega
      obtain ⟨sb, so, rfl, hsl, _, hsc9⟩ := (HH.out.kept (HBB.out.trans (HB.out.mono HBB.out.size))).get hkn
      obtain ⟨s, hse⟩ : ∃ s, s = l.getD k MarkS.z := ⟨_, rfl⟩
      rw [← hse] at hsc9
      have HSE := Lib.hid hse
      obtain ⟨x0, x1⟩ := s
      have d0 : wr.cell? ⟨sb, so + k * 2, none⟩ = some (.int .i64 x0) := hsc9 0 _ rfl
      have d1 : wr.cell? ⟨sb, so + k * 2 + 1, none⟩ = some (.int .i64 x1) := hsc9 1 _ rfl
      have HAL := Lib.hid (show Below wb.heap.size wb (wr.alloc (.cells #[.int .i64 x0, .int .i64 x1] 44)) from HB.out.alloc HB.out.size _)
      have HXA := Lib.hid (heap_alloc_new wr (.cells #[.int .i64 x0, .int .i64 x1] 44))
      have HCM := Lib.hid (byM_any x0 y0 x1 y1 (wr.alloc (.cells #[.int .i64 x0, .int .i64 x1] 44)))
      clear hsc9 hse hsl
      go_wp2_with fail
      refine HCM.out.mono ?_
      rintro e w3 ⟨rfl, hb3⟩
      have HB3 := Lib.hid (HAL.out.trans (hb3.mono HAL.out.size))
      have HX3 := Lib.hid ((hb3.block wr.heap.size (by have := (Array.getElem?_eq_some_iff.1 HXA.out).1; exact this)).trans HXA.out)
      clear hb3
      by_cases hxy : x0 = y0
      · have hz : cmp3 x0 y0 = 0 := cmp3_0.2 hxy
        have HR3 := Lib.hid ((HB3.out.block (w.heap.size + 1) (by have := HSB.out; omega)).trans HGB.out)
        have HF := Lib.hid (show l.find? (fun x => decide (x.1 = y0)) = some ⟨x0, x1⟩ from by
          rw [HSE.out]
          exact find_at _ MarkS.z l k (by rw [HL.out]; exact hkn) HN.out (by rw [← HSE.out]; exact decide_eq_true hxy))
        have e0 : w3.cell? ⟨wr.heap.size, 0, none⟩ = some (.int .i64 x0) := cell_blk HX3.out rfl
        have e1 : w3.cell? ⟨wr.heap.size, 1, none⟩ = some (.int .i64 x1) := cell_blk HX3.out rfl
        have r0 : w3.cell? ⟨w.heap.size + 1, 0, none⟩ = some (.int .i64 0) := cell_blk HR3.out rfl
        have r1 : w3.cell? ⟨w.heap.size + 1, 1, none⟩ = some (.int .i64 0) := cell_blk HR3.out rfl
        have f0 : w3.frozen? ⟨w.heap.size + 1, 0, none⟩ = false := fro_blk HR3.out 0
        have f1 : w3.frozen? ⟨w.heap.size + 1, 1, none⟩ = false := fro_blk HR3.out 1
        clear hxy
        go_wp2_with fail
        refine bodyPost_ret (ret_cell_tmp rfl _ _ (w.heap.size + 1) 44 #[.int .i64 x0, .int .i64 x1] _ _ rfl (setM HR3.out x0 x1) Tryz.underlying44 rfl (by kernel_rfl)) rfl ?_
        refine ⟨?_, HBB.out.trans (belowM (HB3.out.mono HBB.out.size) (by omega) x0 x1)⟩
        unfold LkM
        rw [HF.out]
        rfl
      · have hz : ((cmp3 x0 y0) == 0) = false := by rw [beq_eq_false_iff_ne]; exact fun e => hxy (cmp3_0.1 e)
        have HN2 := Lib.hid (show ∀ j, j < k + 1 → (fun x => decide (x.1 = y0)) (l.getD j MarkS.z) = false from fun j hj => by
          rcases Nat.lt_or_ge j k with g | g
          · exact HN.out j g
          · rw [show j = k from by omega, ← HSE.out]; exact decide_eq_false hxy)
        clear hxy
        go_wp2_with fail
        go_roundw
        case rel => exact ⟨k + 1, by omega, by go_num, HN2, HB3⟩
        case measure => simp [intOf]; omega
    · obtain rfl : n = k := by omega
      have HRN0 := Lib.hid ((HB.out.block (w.heap.size + 1) (by have := HSB.out; omega)).trans HGB.out)
      have HF := Lib.hid (show l.find? (fun x => decide (x.1 = y0)) = none from find_no _ MarkS.z l (by rw [HL.out]; exact HN.out))
      have hl5 : w.heap.size + 1 < wr.heap.size := by have := HSB.out; have := HB.out.size; omega
      have r0 : wr.cell? ⟨w.heap.size + 1, 0, none⟩ = some (.int .i64 0) := cell_blk HRN0.out rfl
      have r1 : wr.cell? ⟨w.heap.size + 1, 1, none⟩ = some (.int .i64 0) := cell_blk HRN0.out rfl
      have f0 : wr.frozen? ⟨w.heap.size + 1, 0, none⟩ = false := fro_blk HRN0.out 0
      have f1 : wr.frozen? ⟨w.heap.size + 1, 1, none⟩ = false := fro_blk HRN0.out 1
      clear hkn
      go_wp2_with fail
      refine bodyPost_ret (ret_cell_tmp rfl _ _ (w.heap.size + 1) 44 #[.int .i64 0, .int .i64 0] _ _ rfl ((hao9 _ _ _ (by simpa using hl5)).trans (setM HRN0.out 0 0)) Tryz.underlying44 rfl (by kernel_rfl)) rfl ?_
      refine ⟨?_, HBB.out.trans ((belowM (HB.out.mono HBB.out.size) (by omega) 0 0).alloc (by simp; have := HB.out.size; have := HBB.out.size; omega) _)⟩
      unfold LkM
      rw [HF.out]
      rfl

/-- what look answers -/
def LkE (l : List EntV) (y0 : ByteArray) (e : Ending) : Prop := e = .returned (.tuple #[.agg (EntS.f ((l.find? fun x => decide (x.key = y0)).getD EntS.z)).toArray, .bool (l.find? fun x => decide (x.key = y0)).isSome])
set_option maxRecDepth 100000 in
set_option maxHeartbeats 4000000 in
theorem lookE_any {w : World} {a : Option Addr} {n c : Nat} {l : List EntV} (h : VecAt EntS w a n c l) (y0 : ByteArray) (y1 : Int) (y2 : ByteArray) (y3 : Int) (y4 : Int) (y5 : Int) (y6 : Int) (y7 : Int) (y8 : Int) :
    Calls Tryz.prog 37 #[.slice a n c, .agg #[.string y0, .int .i64 y1, .string y2, .int .i64 y3, .int .i64 y4, .int .i64 y5, .int .i64 y6, .int .u32 y7, .int .i64 y8], .func (.func 28) #[] #[]] w fun e w' => LkE l y0 e ∧ Below w.heap.size w w' := by
  have hcap := h.cap
  have hcm := h.capm
  have HH := Lib.hid h
  have HL := Lib.hid h.len
  obtain ⟨wa, hwa⟩ : ∃ wa, wa = w.alloc (.cells #[.string y0, .int .i64 y1, .string y2, .int .i64 y3, .int .i64 y4, .int .i64 y5, .int .i64 y6, .int .u32 y7, .int .i64 y8] 42) := ⟨_, rfl⟩
  obtain ⟨wb, hwb⟩ : ∃ wb, wb = wa.alloc (.cells #[.string { data := #[] }, .int .i64 0, .string { data := #[] }, .int .i64 0, .int .i64 0, .int .i64 0, .int .i64 0, .int .u32 0, .int .i64 0] 42) := ⟨_, rfl⟩
  have sa : wa.heap.size = w.heap.size + 1 := by rw [hwa]; exact Array.size_push _
  have sb : wb.heap.size = w.heap.size + 2 := by rw [hwb]; show (wa.heap.push _).size = _; rw [Array.size_push, sa]
  have ba : Below w.heap.size w wa := by rw [hwa]; exact (Below.refl _ _).alloc (Nat.le_refl _) _
  have bb : Below w.heap.size w wb := by rw [hwb]; exact ba.alloc ba.size _
  have gb : wb.heap[w.heap.size + 1]? = some (.cells #[.string { data := #[] }, .int .i64 0, .string { data := #[] }, .int .i64 0, .int .i64 0, .int .i64 0, .int .i64 0, .int .u32 0, .int .i64 0] 42 (0, 0)) := by rw [hwb, ← sa]; exact heap_alloc_new _ _
  have ga : wb.heap[w.heap.size]? = some (.cells #[.string y0, .int .i64 y1, .string y2, .int .i64 y3, .int .i64 y4, .int .i64 y5, .int .i64 y6, .int .u32 y7, .int .i64 y8] 42 (0, 0)) := by rw [hwb, hao9 _ _ _ (by omega), hwa]; exact heap_alloc_new _ _
  have HBB := Lib.hid bb
  have HGB := Lib.hid gb
  have HC4 := Lib.hid (show ∀ i u, (#[.string y0, .int .i64 y1, .string y2, .int .i64 y3, .int .i64 y4, .int .i64 y5, .int .i64 y6, .int .u32 y7, .int .i64 y8] : Array Value)[i]? = some u → wb.cell? ⟨w.heap.size, i, none⟩ = some u from fun i u hu => cell_blk ga hu)
  have HL4 := Lib.hid (show w.heap.size < wb.heap.size by omega)
  have HSB := Lib.hid sb
  have HWB := Lib.hid (show wb = (w.alloc (.cells #[.string y0, .int .i64 y1, .string y2, .int .i64 y3, .int .i64 y4, .int .i64 y5, .int .i64 y6, .int .u32 y7, .int .i64 y8] 42)).alloc (.cells #[.string { data := #[] }, .int .i64 0, .string { data := #[] }, .int .i64 0, .int .i64 0, .int .i64 0, .int .i64 0, .int .u32 0, .int .i64 0] 42) by rw [hwb, hwa])
  clear h hwa hwb sa sb ba bb gb ga
  go_enter Tryz.func37, Tryz.ntmps37
  go_wp2_with fail
  rw [← HWB.out]
  go_loopw [9, 13] (fun s9 s13 wr => ∃ k : Nat, k ≤ n ∧ s13 = .int .i64 (k : Int) ∧ Hid (∀ j, j < k → (fun x => decide (x.key = y0)) (l.getD j EntS.z) = false) ∧ Hid (Below wb.heap.size wb wr)) (fun _ s13 _ => n - (intOf s13).toNat)
  case atStart => exact ⟨0, by omega, rfl, Lib.hid (fun j hj => by omega), Lib.hid (Below.refl _ _)⟩
  case round =>
    obtain ⟨k, hk, rfl, HN, HB⟩ := hrel
    rename World => wr
    have hl4 : w.heap.size < wr.heap.size := Nat.lt_of_lt_of_le HL4.out HB.out.size
    have q0 : wr.cell? ⟨w.heap.size, 0, none⟩ = some (.string y0) := (HB.out.cell (p := ⟨w.heap.size, 0, none⟩) HL4.out).trans (HC4.out 0 _ rfl)
    have q1 : wr.cell? ⟨w.heap.size, 1, none⟩ = some (.int .i64 y1) := (HB.out.cell (p := ⟨w.heap.size, 1, none⟩) HL4.out).trans (HC4.out 1 _ rfl)
    have q2 : wr.cell? ⟨w.heap.size, 2, none⟩ = some (.string y2) := (HB.out.cell (p := ⟨w.heap.size, 2, none⟩) HL4.out).trans (HC4.out 2 _ rfl)
    have q3 : wr.cell? ⟨w.heap.size, 3, none⟩ = some (.int .i64 y3) := (HB.out.cell (p := ⟨w.heap.size, 3, none⟩) HL4.out).trans (HC4.out 3 _ rfl)
    have q4 : wr.cell? ⟨w.heap.size, 4, none⟩ = some (.int .i64 y4) := (HB.out.cell (p := ⟨w.heap.size, 4, none⟩) HL4.out).trans (HC4.out 4 _ rfl)
    have q5 : wr.cell? ⟨w.heap.size, 5, none⟩ = some (.int .i64 y5) := (HB.out.cell (p := ⟨w.heap.size, 5, none⟩) HL4.out).trans (HC4.out 5 _ rfl)
    have q6 : wr.cell? ⟨w.heap.size, 6, none⟩ = some (.int .i64 y6) := (HB.out.cell (p := ⟨w.heap.size, 6, none⟩) HL4.out).trans (HC4.out 6 _ rfl)
    have q7 : wr.cell? ⟨w.heap.size, 7, none⟩ = some (.int .u32 y7) := (HB.out.cell (p := ⟨w.heap.size, 7, none⟩) HL4.out).trans (HC4.out 7 _ rfl)
    have q8 : wr.cell? ⟨w.heap.size, 8, none⟩ = some (.int .i64 y8) := (HB.out.cell (p := ⟨w.heap.size, 8, none⟩) HL4.out).trans (HC4.out 8 _ rfl)
    by_cases hkn : k < n
    · have hki : (k : Int) < (n : Int) := by omega
      obtain ⟨sb, so, rfl, hsl, _, hsc9⟩ := (HH.out.kept (HBB.out.trans (HB.out.mono HBB.out.size))).get hkn
      obtain ⟨s, hse⟩ : ∃ s, s = l.getD k EntS.z := ⟨_, rfl⟩
      rw [← hse] at hsc9
      have HSE := Lib.hid hse
      obtain ⟨x0, x1, x2, x3, x4, x5, x6, x7, x8⟩ := s
      have d0 : wr.cell? ⟨sb, so + k * 9, none⟩ = some (.string x0) := hsc9 0 _ rfl
      have d1 : wr.cell? ⟨sb, so + k * 9 + 1, none⟩ = some (.int .i64 x1) := hsc9 1 _ rfl
      have d2 : wr.cell? ⟨sb, so + k * 9 + 2, none⟩ = some (.string x2) := hsc9 2 _ rfl
      have d3 : wr.cell? ⟨sb, so + k * 9 + 3, none⟩ = some (.int .i64 x3) := hsc9 3 _ rfl
      have d4 : wr.cell? ⟨sb, so + k * 9 + 4, none⟩ = some (.int .i64 x4) := hsc9 4 _ rfl
      have d5 : wr.cell? ⟨sb, so + k * 9 + 5, none⟩ = some (.int .i64 x5) := hsc9 5 _ rfl
      have d6 : wr.cell? ⟨sb, so + k * 9 + 6, none⟩ = some (.int .i64 x6) := hsc9 6 _ rfl
      have d7 : wr.cell? ⟨sb, so + k * 9 + 7, none⟩ = some (.int .u32 x7) := hsc9 7 _ rfl
      have d8 : wr.cell? ⟨sb, so + k * 9 + 8, none⟩ = some (.int .i64 x8) := hsc9 8 _ rfl
      have HAL := Lib.hid (show Below wb.heap.size wb (wr.alloc (.cells #[.string x0, .int .i64 x1, .string x2, .int .i64 x3, .int .i64 x4, .int .i64 x5, .int .i64 x6, .int .u32 x7, .int .i64 x8] 42)) from HB.out.alloc HB.out.size _)
      have HXA := Lib.hid (heap_alloc_new wr (.cells #[.string x0, .int .i64 x1, .string x2, .int .i64 x3, .int .i64 x4, .int .i64 x5, .int .i64 x6, .int .u32 x7, .int .i64 x8] 42))
      have HCM := Lib.hid (byE_any x0 y0 x1 y1 x2 y2 x3 y3 x4 y4 x5 y5 x6 y6 x7 y7 x8 y8 (wr.alloc (.cells #[.string x0, .int .i64 x1, .string x2, .int .i64 x3, .int .i64 x4, .int .i64 x5, .int .i64 x6, .int .u32 x7, .int .i64 x8] 42)))
      clear hsc9 hse hsl
      go_wp2_with fail
      refine HCM.out.mono ?_
      rintro e w3 ⟨rfl, hb3⟩
      have HB3 := Lib.hid (HAL.out.trans (hb3.mono HAL.out.size))
      have HX3 := Lib.hid ((hb3.block wr.heap.size (by have := (Array.getElem?_eq_some_iff.1 HXA.out).1; exact this)).trans HXA.out)
      clear hb3
      by_cases hxy : x0 = y0
      · have hz : cmpS x0 y0 = 0 := cmpS_0.2 hxy
        have HR3 := Lib.hid ((HB3.out.block (w.heap.size + 1) (by have := HSB.out; omega)).trans HGB.out)
        have HF := Lib.hid (show l.find? (fun x => decide (x.key = y0)) = some ⟨x0, x1, x2, x3, x4, x5, x6, x7, x8⟩ from by
          rw [HSE.out]
          exact find_at _ EntS.z l k (by rw [HL.out]; exact hkn) HN.out (by rw [← HSE.out]; exact decide_eq_true hxy))
        have e0 : w3.cell? ⟨wr.heap.size, 0, none⟩ = some (.string x0) := cell_blk HX3.out rfl
        have e1 : w3.cell? ⟨wr.heap.size, 1, none⟩ = some (.int .i64 x1) := cell_blk HX3.out rfl
        have e2 : w3.cell? ⟨wr.heap.size, 2, none⟩ = some (.string x2) := cell_blk HX3.out rfl
        have e3 : w3.cell? ⟨wr.heap.size, 3, none⟩ = some (.int .i64 x3) := cell_blk HX3.out rfl
        have e4 : w3.cell? ⟨wr.heap.size, 4, none⟩ = some (.int .i64 x4) := cell_blk HX3.out rfl
        have e5 : w3.cell? ⟨wr.heap.size, 5, none⟩ = some (.int .i64 x5) := cell_blk HX3.out rfl
        have e6 : w3.cell? ⟨wr.heap.size, 6, none⟩ = some (.int .i64 x6) := cell_blk HX3.out rfl
        have e7 : w3.cell? ⟨wr.heap.size, 7, none⟩ = some (.int .u32 x7) := cell_blk HX3.out rfl
        have e8 : w3.cell? ⟨wr.heap.size, 8, none⟩ = some (.int .i64 x8) := cell_blk HX3.out rfl
        have r0 : w3.cell? ⟨w.heap.size + 1, 0, none⟩ = some (.string { data := #[] }) := cell_blk HR3.out rfl
        have r1 : w3.cell? ⟨w.heap.size + 1, 1, none⟩ = some (.int .i64 0) := cell_blk HR3.out rfl
        have r2 : w3.cell? ⟨w.heap.size + 1, 2, none⟩ = some (.string { data := #[] }) := cell_blk HR3.out rfl
        have r3 : w3.cell? ⟨w.heap.size + 1, 3, none⟩ = some (.int .i64 0) := cell_blk HR3.out rfl
        have r4 : w3.cell? ⟨w.heap.size + 1, 4, none⟩ = some (.int .i64 0) := cell_blk HR3.out rfl
        have r5 : w3.cell? ⟨w.heap.size + 1, 5, none⟩ = some (.int .i64 0) := cell_blk HR3.out rfl
        have r6 : w3.cell? ⟨w.heap.size + 1, 6, none⟩ = some (.int .i64 0) := cell_blk HR3.out rfl
        have r7 : w3.cell? ⟨w.heap.size + 1, 7, none⟩ = some (.int .u32 0) := cell_blk HR3.out rfl
        have r8 : w3.cell? ⟨w.heap.size + 1, 8, none⟩ = some (.int .i64 0) := cell_blk HR3.out rfl
        have f0 : w3.frozen? ⟨w.heap.size + 1, 0, none⟩ = false := fro_blk HR3.out 0
        have f1 : w3.frozen? ⟨w.heap.size + 1, 1, none⟩ = false := fro_blk HR3.out 1
        have f2 : w3.frozen? ⟨w.heap.size + 1, 2, none⟩ = false := fro_blk HR3.out 2
        have f3 : w3.frozen? ⟨w.heap.size + 1, 3, none⟩ = false := fro_blk HR3.out 3
        have f4 : w3.frozen? ⟨w.heap.size + 1, 4, none⟩ = false := fro_blk HR3.out 4
        have f5 : w3.frozen? ⟨w.heap.size + 1, 5, none⟩ = false := fro_blk HR3.out 5
        have f6 : w3.frozen? ⟨w.heap.size + 1, 6, none⟩ = false := fro_blk HR3.out 6
        have f7 : w3.frozen? ⟨w.heap.size + 1, 7, none⟩ = false := fro_blk HR3.out 7
        have f8 : w3.frozen? ⟨w.heap.size + 1, 8, none⟩ = false := fro_blk HR3.out 8
        clear hxy
        go_wp2_with fail
        refine bodyPost_ret (ret_cell_tmp rfl _ _ (w.heap.size + 1) 42 #[.string x0, .int .i64 x1, .string x2, .int .i64 x3, .int .i64 x4, .int .i64 x5, .int .i64 x6, .int .u32 x7, .int .i64 x8] _ _ rfl (setE HR3.out x0 x1 x2 x3 x4 x5 x6 x7 x8) Tryz.underlying42 rfl (by kernel_rfl)) rfl ?_
        refine ⟨?_, HBB.out.trans (belowE (HB3.out.mono HBB.out.size) (by omega) x0 x1 x2 x3 x4 x5 x6 x7 x8)⟩
        unfold LkE
        rw [HF.out]
        rfl
      · have hz : ((cmpS x0 y0) == 0) = false := by rw [beq_eq_false_iff_ne]; exact fun e => hxy (cmpS_0.1 e)
        have HN2 := Lib.hid (show ∀ j, j < k + 1 → (fun x => decide (x.key = y0)) (l.getD j EntS.z) = false from fun j hj => by
          rcases Nat.lt_or_ge j k with g | g
          · exact HN.out j g
          · rw [show j = k from by omega, ← HSE.out]; exact decide_eq_false hxy)
        clear hxy
        go_wp2_with fail
        go_roundw
        case rel => exact ⟨k + 1, by omega, by go_num, HN2, HB3⟩
        case measure => simp [intOf]; omega
    · obtain rfl : n = k := by omega
      have HRN0 := Lib.hid ((HB.out.block (w.heap.size + 1) (by have := HSB.out; omega)).trans HGB.out)
      have HF := Lib.hid (show l.find? (fun x => decide (x.key = y0)) = none from find_no _ EntS.z l (by rw [HL.out]; exact HN.out))
      have hl5 : w.heap.size + 1 < wr.heap.size := by have := HSB.out; have := HB.out.size; omega
      have r0 : wr.cell? ⟨w.heap.size + 1, 0, none⟩ = some (.string { data := #[] }) := cell_blk HRN0.out rfl
      have r1 : wr.cell? ⟨w.heap.size + 1, 1, none⟩ = some (.int .i64 0) := cell_blk HRN0.out rfl
      have r2 : wr.cell? ⟨w.heap.size + 1, 2, none⟩ = some (.string { data := #[] }) := cell_blk HRN0.out rfl
      have r3 : wr.cell? ⟨w.heap.size + 1, 3, none⟩ = some (.int .i64 0) := cell_blk HRN0.out rfl
      have r4 : wr.cell? ⟨w.heap.size + 1, 4, none⟩ = some (.int .i64 0) := cell_blk HRN0.out rfl
      have r5 : wr.cell? ⟨w.heap.size + 1, 5, none⟩ = some (.int .i64 0) := cell_blk HRN0.out rfl
      have r6 : wr.cell? ⟨w.heap.size + 1, 6, none⟩ = some (.int .i64 0) := cell_blk HRN0.out rfl
      have r7 : wr.cell? ⟨w.heap.size + 1, 7, none⟩ = some (.int .u32 0) := cell_blk HRN0.out rfl
      have r8 : wr.cell? ⟨w.heap.size + 1, 8, none⟩ = some (.int .i64 0) := cell_blk HRN0.out rfl
      have f0 : wr.frozen? ⟨w.heap.size + 1, 0, none⟩ = false := fro_blk HRN0.out 0
      have f1 : wr.frozen? ⟨w.heap.size + 1, 1, none⟩ = false := fro_blk HRN0.out 1
      have f2 : wr.frozen? ⟨w.heap.size + 1, 2, none⟩ = false := fro_blk HRN0.out 2
      have f3 : wr.frozen? ⟨w.heap.size + 1, 3, none⟩ = false := fro_blk HRN0.out 3
      have f4 : wr.frozen? ⟨w.heap.size + 1, 4, none⟩ = false := fro_blk HRN0.out 4
      have f5 : wr.frozen? ⟨w.heap.size + 1, 5, none⟩ = false := fro_blk HRN0.out 5
      have f6 : wr.frozen? ⟨w.heap.size + 1, 6, none⟩ = false := fro_blk HRN0.out 6
      have f7 : wr.frozen? ⟨w.heap.size + 1, 7, none⟩ = false := fro_blk HRN0.out 7
      have f8 : wr.frozen? ⟨w.heap.size + 1, 8, none⟩ = false := fro_blk HRN0.out 8
      clear hkn
      go_wp2_with fail
      refine bodyPost_ret (ret_cell_tmp rfl _ _ (w.heap.size + 1) 42 #[.string { data := #[] }, .int .i64 0, .string { data := #[] }, .int .i64 0, .int .i64 0, .int .i64 0, .int .i64 0, .int .u32 0, .int .i64 0] _ _ rfl ((hao9 _ _ _ (by simpa using hl5)).trans (setE HRN0.out { data := #[] } 0 { data := #[] } 0 0 0 0 0 0)) Tryz.underlying42 rfl (by kernel_rfl)) rfl ?_
      refine ⟨?_, HBB.out.trans ((belowE (HB.out.mono HBB.out.size) (by omega) { data := #[] } 0 { data := #[] } 0 0 0 0 0 0).alloc (by simp; have := HB.out.size; have := HBB.out.size; omega) _)⟩
      unfold LkE
      rw [HF.out]
      rfl

end Go.Proofs.YtadfmenlpnibnaaGreat
end PkMS2_0
section PkMS2_1
/- Maps of entries by key; a range over one that deletes; maps.DeleteFunc with Apply's closure, walked. -/
namespace Go.Proofs.YtadfmenlpnibnaaGreat
open Go.RowKit LabPlain
open Go.Maps (Keyed string_keyed)
set_option linter.unusedVariables false

def entV (x : EntV) : Value := .agg #[.string x.key, .int .i64 x.win, .string x.part, .int .i64 x.fst, .int .i64 x.lst, .int .i64 x.rows, .int .i64 x.size, .int .u32 x.sum, .int .i64 x.born]
def TE : MTy := ⟨54, 9, 42, entV ent0, string_keyed Tryz.underlying9, Tryz.underlying54, fun w => by unfold entV ent0; kernel_rfl⟩
/-- a map of entries -/
def EM (w : World) (M : Nat) (l : List (ByteArray × EntV)) : Prop := GM TE slit entV w M l
theorem EM.gm {w : World} {M : Nat} {l : List (ByteArray × EntV)} (h : EM w M l) : GM TE slit entV w M l := h
theorem look2E {W : World} {M : Nat} {l : List (ByteArray × EntV)} (h : EM W M l) (k : ByteArray) (hk : k.size ≤ 1000000000000000) : (Instr.lookup 54 (.map (some M)) (.string k) true).run Tryz.prog W = .ok (.tuple #[(getK slit k l).elim (entV ent0) entV, .bool (getK slit k l).isSome]) W := h.gm.look_ok (k := k) (keyS (by unfold maxLen; omega))
theorem storeE {W : World} {M : Nat} {l : List (ByteArray × EntV)} (h : EM W M l) (k : ByteArray) (hk : k.size ≤ 1000000000000000) (a : EntV) (hn : l.length ≤ 1000000) : ∃ w', (Instr.mapUpdate 54 (.map (some M)) (.string k) (.agg #[.string a.key, .int .i64 a.win, .string a.part, .int .i64 a.fst, .int .i64 a.lst, .int .i64 a.rows, .int .i64 a.size, .int .u32 a.sum, .int .i64 a.born])).run Tryz.prog W = .ok () w' ∧ EM w' M (putK slit k a l) ∧ W.mapTurned w' M := GM.store (f := entV) h.gm (k := k) (keyS (by unfold maxLen; omega)) rfl (by unfold maxLen; omega)
theorem dropE {W : World} {M : Nat} {l : List (ByteArray × EntV)} (h : EM W M l) (k : ByteArray) (hk : k.size ≤ 1000000000000000) (ty : TypeId) : ∃ w', (Builtin.delete_ #[54, 9] ty #[.map (some M), .string k]).run Tryz.prog W = .ok (.tuple #[]) w' ∧ EM w' M (dropK slit k l) ∧ W.mapTurned w' M := h.gm.drop (k := k) (keyS (by unfold maxLen; omega)) ty

section
variable {κ α : Type} {lit : κ → Lit} {f : α → Value} {l : List (κ × α)} {T : MTy} {w w' : World} {M r n cnt : Nat} {left : Lit → Bool}
/-- a range over block M under way, some entries of which may have been deleted -/
def GRn (T : MTy) (lit : κ → Lit) (f : α → Value) (w : World) (M r n : Nat) (l : List (κ × α)) (left : Lit → Bool) (cnt : Nat) : Prop := w.ranges Tryz.prog T.k heldR M r n (.map (encK lit f l)) left cnt
theorem GRn.gm (h : GRn T lit f w M r n l left cnt) : GM T lit f w M l := by
  have := own_tight (World.ranges.owns h)
  rw [enc_size] at this
  exact this
theorem GR.grn (h : GR T lit f w M r l left cnt) : GRn T lit f w M r l.length l left cnt := h
theorem GRn.kept {row : Option Nat} (h : GRn T lit f w M r n l left cnt) (hg : w.grownBy w' row) (h1 : some M ≠ row) (h2 : some r ≠ row) : GRn T lit f w' M r n l left cnt := World.ranges.kept h hg h1 h2
theorem GRn.below (h : GRn T lit f w M r n l left cnt) (hb : Below w.heap.size w w') : GRn T lit f w' M r n l left cnt :=
  h.kept (row := none) ⟨hb.os, hb.tape, hb.output, hb.size, fun i hi _ => hb.block i hi⟩ (by simp) (by simp)
theorem GRn.left_eq (h : GRn T lit f w M r n l left cnt) : w.rangeLeft M r = cnt := World.ranges.left_eq h
theorem GRn.lt (h : GRn T lit f w M r n l left cnt) : r < w.heap.size := World.ranges.lt h
theorem wpList_next_gn {ops : Array Oper} {rest : List Oper} {o : Oper} {a : Act} {Q : Exit → Act → World → Prop} (hg : o.guard = none) (it : Operand) (hop : o.op = Op.next it false) (kv : κ → Value) (hkv : ∀ p ∈ l, keyOf Tryz.prog T.k (kv p.1) = some (lit p.1))
    (hit : a.eval it = .pointer (some ⟨r, 0, none⟩)) (h : GRn T lit f w M r n l left cnt)
    (hDone : (∀ kl, left kl = false) → wpList Tryz.prog ops Q rest (a.put o.dst (.tuple #[.bool false])) w)
    (hMore : ∀ (q : κ × α) (w' : World) (cnt' : Nat), q ∈ l → left (lit q.1) = true → GRn T lit f w' M r n l (fun z => left z && !z.sameKey (lit q.1)) cnt' → cnt' < cnt → w.grownBy w' (some r) → w'.heap.size = w.heap.size →
      (Instr.entry (.pointer (some ⟨r, 0, none⟩))).run Tryz.prog w' = .ok (.tuple #[kv q.1, f q.2]) w' → wpList Tryz.prog ops Q rest (a.put o.dst (.tuple #[.bool true, kv q.1, f q.2])) w') : wpList Tryz.prog ops Q (o :: rest) a w := by
  refine wpList_plain hg fun K' hK' => ?_
  unfold Oper.wp
  rcases World.ranges.next h T.K o.type with ⟨h0, hl, hrun⟩ | ⟨key, v, kl, y, w', cnt', hkey, hlk, hv, hat, hrun, hrg, hlt, hgr, hsz, hen⟩
  · simp [execOp, hop, hit, hrun, Result.andThen]
    exact hK' _ _ (hDone hl)
  · obtain ⟨q, hq, rfl, hy⟩ := find_key hat
    have hv2 : v = f q.2 := by
      unfold heldR at hv
      have := congrArg (fun z => (z.map Prod.fst)) hv
      simp only [Option.map_some, Option.some.injEq] at this
      rw [hy] at this
      simpa using this
    have hk2 : key = kv q.1 := T.K.inj hkey (hkv q hq)
    subst hv2
    subst hk2
    simp [execOp, hop, hit, hrun, Result.andThen]
    exact hK' _ _ (hMore q w' cnt' hq hlk hrg hlt hgr hsz hen)
theorem GRn.drop (h : GRn T lit f w M r n l left cnt) {k : κ} {key : Value} (hk : keyOf Tryz.prog T.k key = some (lit k)) (ty : TypeId) :
    ∃ w' cnt', (Builtin.delete_ #[T.t, T.k] ty #[.map (some M), key]).run Tryz.prog w = .ok (.tuple #[]) w' ∧ GRn T lit f w' M r n (dropK lit k l) (fun z => left z && !z.sameKey (lit k)) cnt' ∧ cnt' ≤ cnt ∧ w.mapTurned w' M := by
  obtain ⟨w', cnt', hrun, r1, r2, r3⟩ := World.ranges.drop h T.K T.ht hk ty
  rw [enc_del] at r1
  exact ⟨w', cnt', hrun, r1, r2, r3⟩
theorem Frm.grown {F : Nat → Prop} {a b c : World} {row : Option Nat} (h : Frm F a b) (k : b.grownBy c row) (hr : ∀ j, row = some j → F j ∨ a.heap.size ≤ j) : Frm F a c :=
  ⟨k.os.trans h.os, k.tape.trans h.tape, k.output.trans h.output, Nat.le_trans h.size k.size, fun i hi hf => (k.block i (Nat.lt_of_lt_of_le hi h.size) (fun e => by
    rcases hr i e.symm with g | g
    · exact hf g
    · omega)).trans (h.block i hi hf)⟩
/-- what a range that deletes has left: what is to come, and what stays -/
def leftK (lit : κ → Lit) (st : α → Bool) (left : Lit → Bool) (l : List (κ × α)) : List (κ × α) := l.filter fun p => left (lit p.1) || st p.2
theorem leftK_start (st : α → Bool) (hk : ∀ p ∈ l, WideAt.IsKeyLit (lit p.1)) : leftK lit st (Maps.has (.map (encK lit f l))) l = l := by
  unfold leftK
  rw [List.filter_eq_self]
  intro p hp
  have : Maps.has (DataW.map (encK lit f l)) (lit p.1) = true := List.any_eq_true.2 ⟨(lit p.1, .held (f p.2)), List.mem_map.2 ⟨p, hp, rfl⟩, WideAt.sameKey_self (hk p hp)⟩
  rw [this]; rfl
theorem leftK_end (st : α → Bool) (h : ∀ kl, left kl = false) : leftK lit st left l = l.filter fun p => st p.2 := by
  unfold leftK
  exact List.filter_congr fun p _ => by rw [h]; rfl
theorem mem_leftK {st : α → Bool} {q : κ × α} (h : q ∈ leftK lit st left l) : q ∈ l := (List.mem_filter.1 h).1
theorem same_of {q p : κ × α} (hp : l.Pairwise fun p q => lit p.1 ≠ lit q.1) (hq : q ∈ l) (h : p ∈ l) (e : lit p.1 = lit q.1) : p = q := by
  induction l with
  | nil => cases hq
  | cons y r ih =>
    obtain ⟨h1, h2⟩ := List.pairwise_cons.1 hp
    rcases List.mem_cons.1 hq with rfl | hq'
    · rcases List.mem_cons.1 h with rfl | h'
      · rfl
      · exact absurd e.symm (h1 p h')
    · rcases List.mem_cons.1 h with rfl | h'
      · exact absurd e (h1 q hq')
      · exact ih h2 hq' h'
/-- the round's entry stays -/
theorem leftK_stay {st : α → Bool} {q : κ × α} (hp : l.Pairwise fun p q => lit p.1 ≠ lit q.1) (hq : q ∈ l) (hs : st q.2 = true) : leftK lit st (fun z => left z && !z.sameKey (lit q.1)) l = leftK lit st left l := by
  unfold leftK
  refine List.filter_congr fun p hm => ?_
  by_cases e : lit p.1 = lit q.1
  · rw [same_of hp hq hm e, hs]; simp
  · simp only [Maps.sameKey_ne e]; simp
/-- the round's entry goes -/
theorem leftK_go {st : α → Bool} {q : κ × α} (hp : l.Pairwise fun p q => lit p.1 ≠ lit q.1) (hk : ∀ p ∈ l, WideAt.IsKeyLit (lit p.1)) (hq : q ∈ l) (hs : st q.2 = false) : leftK lit st (fun z => left z && !z.sameKey (lit q.1)) l = dropK lit q.1 (leftK lit st left l) := by
  unfold leftK dropK
  rw [List.filter_filter]
  refine List.filter_congr fun p hm => ?_
  by_cases e : lit p.1 = lit q.1
  · have e2 := same_of hp hq hm e
    simp only [e2, hs, WideAt.sameKey_self (hk q hq)]; simp
  · simp only [Maps.sameKey_ne e]; simp
end

theorem cell_eqH {a b : World} {p : Addr} (h : b.heap[p.block]? = a.heap[p.block]?) : b.cell? p = a.cell? p := by
  unfold World.cell?
  rw [h]
theorem apcut_any {w : World} {nb : Nat} {cut : Int} (hnb : nb < w.heap.size) (hc : w.cell? ⟨nb, 1, none⟩ = some (.int .i64 cut)) (k : ByteArray) (x0 : ByteArray) (x1 : Int) (x2 : ByteArray) (x3 x4 x5 x6 x7 x8 : Int) :
    Calls Tryz.prog 25 #[.string k, .agg #[.string x0, .int .i64 x1, .string x2, .int .i64 x3, .int .i64 x4, .int .i64 x5, .int .i64 x6, .int .u32 x7, .int .i64 x8], .pointer (some ⟨nb, 0, none⟩)] w fun e w' => e = .returned (.bool (decide (x1 < cut))) ∧ Below w.heap.size w w' := by
  obtain ⟨wa, hwa⟩ : ∃ wa, wa = w.alloc (.cells #[.string x0, .int .i64 x1, .string x2, .int .i64 x3, .int .i64 x4, .int .i64 x5, .int .i64 x6, .int .u32 x7, .int .i64 x8] 42) := ⟨_, rfl⟩
  have ba : Below w.heap.size w wa := by rw [hwa]; exact (Below.refl _ _).alloc (Nat.le_refl _) _
  have ga : wa.heap[w.heap.size]? = some (.cells #[.string x0, .int .i64 x1, .string x2, .int .i64 x3, .int .i64 x4, .int .i64 x5, .int .i64 x6, .int .u32 x7, .int .i64 x8] 42 (0, 0)) := by rw [hwa]; exact heap_alloc_new _ _
  have n1 : wa.cell? ⟨w.heap.size, 1, none⟩ = some (.int .i64 x1) := cell_blk ga rfl
  have q1 : wa.cell? ⟨nb, 1, none⟩ = some (.int .i64 cut) := (ba.cell (p := ⟨nb, 1, none⟩) hnb).trans hc
  have HWA := Lib.hid hwa
  have HB := Lib.hid ba
  clear hwa ga ba hc
  go_enter Tryz.func25, Tryz.ntmps25
  go_upto_region 1 with fail
  rw [← HWA.out]
  go_wp2_with fail
  go_ret
  exact ⟨rfl, HB.out⟩
/-- maps.DeleteFunc: those whose window lies below the cut go -/
def keepE (cut : Int) (x : EntV) : Bool := decide (cut ≤ x.win)
set_option maxRecDepth 100000 in
set_option maxHeartbeats 4000000 in
theorem delfunc_any {w : World} {M nb : Nat} {cut : Int} {l : List (ByteArray × EntV)} (h : EM w M l) (hks : ∀ p ∈ l, p.1.size ≤ 1000000000000000) (hnb : nb < w.heap.size) (hne : nb ≠ M) (hc : w.cell? ⟨nb, 1, none⟩ = some (.int .i64 cut)) :
    Calls Tryz.prog 24 #[.map (some M), .func (.func 25) #[] #[.pointer (some ⟨nb, 0, none⟩)]] w fun e w' => e = .returned (.tuple #[]) ∧ EM w' M (l.filter fun p => keepE cut p.2) ∧ Frm (· = M) w w' := by
  have HG := Lib.hid h.gm
  have HAP := Lib.hid h.gm.apart
  have HKY := Lib.hid h.gm.key
  have HKV := Lib.hid (show ∀ x ∈ l, keyOf Tryz.prog TE.k (.string x.1) = some (slit x.1) from fun x hx => keyS (by have := hks x hx; unfold maxLen; omega))
  have HML := Lib.hid h.gm.lt
  have HNB := Lib.hid hnb
  have HNE := Lib.hid hne
  have HC := Lib.hid hc
  clear h hks hnb hne hc
  go_enter Tryz.func24, Tryz.ntmps24
  go_wp2_with (first
    | (at_range; refine wpList_range_gm (T := TE) (M := M) rfl _ rfl rfl HG.out ?_; intro W2 hrg hgr hsz)
    | go_in)
  go_frame
  have HF2 := Lib.hid (show Frm (· = M) w W2 from (Frm.refl _ w).grown hgr (fun j hj => by cases hj))
  have HRG := Lib.hid hrg.grn
  clear hrg hgr hsz
  go_loopw [] (fun wr => ∃ (left : Lit → Bool) (cnt : Nat), Hid (GRn TE slit entV wr M w.heap.size l.length (leftK slit (keepE cut) left l) left cnt) ∧ Hid (Frm (· = M) w wr)) (fun wr => wr.rangeLeft M w.heap.size)
  case atStart => exact ⟨_, _, Lib.hid (by rw [leftK_start _ HKY.out]; exact HRG.out), HF2⟩
  case round =>
    obtain ⟨left, cnt, HR, HF⟩ := hrel
    go_wp2_with (first
      | (at_next; refine wpList_next_gn (T := TE) rfl _ rfl (fun k => .string k) (fun p hp => HKV.out p (mem_leftK hp)) rfl HR.out ?_ ?_)
      | go_in)
    · intro hl0
      have HE := Lib.hid (leftK_end (lit := slit) (l := l) (keepE cut) hl0)
      clear hl0
      go_wp2_with fail
      go_end0
      exact ⟨rfl, by rw [← HE.out]; exact HR.out.gm, HF.out⟩
    · intro k x W3 cnt3 hq hlk hrg3 hlt hg3 hs3 hen
      obtain ⟨x0, x1, x2, x3, x4, x5, x6, x7, x8⟩ := x
      have HRG3 := Lib.hid hrg3
      have HLT := Lib.hid hlt
      have HQ := Lib.hid (mem_leftK hq)
      have HF3 := Lib.hid (HF.out.grown hg3 (fun j hj => by cases hj; exact .inr (Nat.le_refl _)))
      have hen2 : (Instr.entry (.pointer (some ⟨w.heap.size, 0, none⟩))).run Tryz.prog W3 = .ok (.tuple #[.string k, .agg #[.string x0, .int .i64 x1, .string x2, .int .i64 x3, .int .i64 x4, .int .i64 x5, .int .i64 x6, .int .u32 x7, .int .i64 x8]]) W3 := hen
      clear hq hlk hrg3 hlt hg3 hs3 hen
      obtain ⟨wb, hwb⟩ : ∃ wb, wb = W3.alloc (.cells #[.string x0, .int .i64 x1, .string x2, .int .i64 x3, .int .i64 x4, .int .i64 x5, .int .i64 x6, .int .u32 x7, .int .i64 x8] 42) := ⟨_, rfl⟩
      have HWB := Lib.hid hwb
      have HB3 := Lib.hid (show Below W3.heap.size W3 wb from by rw [hwb]; exact (Below.refl _ _).alloc (Nat.le_refl _) _)
      have HCB := Lib.hid (show wb.cell? ⟨nb, 1, none⟩ = some (.int .i64 cut) from (HB3.out.cell (p := ⟨nb, 1, none⟩) (Nat.lt_of_lt_of_le HNB.out HF3.out.size)).trans ((cell_eqH (HF3.out.block nb HNB.out HNE.out)).trans HC.out))
      have HAC := Lib.hid (apcut_any (w := wb) (Nat.lt_of_lt_of_le HNB.out (Nat.le_trans HF3.out.size HB3.out.size)) HCB.out k x0 x1 x2 x3 x4 x5 x6 x7 x8)
      clear hwb
      obtain ⟨bo, hbo⟩ : ∃ b, b = decide (x1 < cut) := ⟨_, rfl⟩
      rw [← hbo] at HAC
      have HBO := Lib.hid hbo
      clear hbo
      go_wp2_with fail
      rw [← HWB.out]
      refine HAC.out.mono ?_
      rintro e w5 ⟨rfl, hb5⟩
      have HR5 := Lib.hid ((HRG3.out.below HB3.out).below hb5)
      have HF5 := Lib.hid ((HF3.out.below HB3.out).below hb5)
      clear hb5
      cases bo with
      | false =>
        go_wp2_with fail
        go_roundw
        case rel => exact ⟨_, cnt3, Lib.hid (by rw [leftK_stay (q := (k, ⟨x0, x1, x2, x3, x4, x5, x6, x7, x8⟩)) HAP.out HQ.out (by have := HBO.out; unfold keepE; simp at this ⊢; exact this)]; exact HR5.out), HF5⟩
        case measure =>
          rw [HR5.out.left_eq, HR.out.left_eq]
          exact HLT.out
      | true =>
        obtain ⟨w6, cnt6, hdr, hR6, hle6, ht6⟩ := HR5.out.drop (k := k) (HKV.out _ HQ.out) 0
        have HR6 := Lib.hid hR6
        have HLE := Lib.hid hle6
        have HF6 := Lib.hid (HF5.out.turned (.inl rfl) ht6)
        have hdr2 : (Builtin.delete_ #[54, 9] 0 #[.map (some M), .string k]).run Tryz.prog w5 = .ok (.tuple #[]) w6 := hdr
        clear hR6 hle6 ht6 hdr
        go_wp2_with fail
        go_roundw
        case rel => exact ⟨_, cnt6, Lib.hid (by rw [leftK_go (q := (k, ⟨x0, x1, x2, x3, x4, x5, x6, x7, x8⟩)) HAP.out HKY.out HQ.out (by have := HBO.out; unfold keepE; simp at this ⊢; exact this)]; have h9 := HR6.out; rw [Maps.strike_twice] at h9; exact h9), HF6⟩
        case measure =>
          rw [HR6.out.left_eq, HR.out.left_eq]
          have := HLE.out
          have := HLT.out
          omega
end Go.Proofs.YtadfmenlpnibnaaGreat
end PkMS2_1
section PkMS2_2
/- A region whose operations come up in any order: walked once for each operation, not once for each order. -/
namespace Go.Proofs.YtadfmenlpnibnaaGreat
open Go.RowKit
set_option linter.unusedVariables false

def slotOf (ops : Array Oper) (i : Nat) : Option Tmp := (ops[i]?).bind (·.dst)
def upd (v : Nat → Value) (i : Nat) (x : Value) : Nat → Value := fun j => if j = i then x else v j
/-- a state in which the first k operations have left these values -/
def fill (ops : Array Oper) (a : Act) (v : Nat → Value) : Nat → Act
  | 0 => a
  | k + 1 => (fill ops a v k).put (slotOf ops k) (v k)
theorem put_put (a : Act) (d : Option Tmp) (x y : Value) : (a.put d x).put d y = a.put d y := by
  cases d with
  | none => rfl
  | some d => simp [Act.put]
theorem put_self (a : Act) (d : Tmp) : a.put (some d) (a.tmps.getD d undef) = a := by
  obtain ⟨t, f⟩ := a
  show (⟨t.setIfInBounds d (t.getD d undef), f⟩ : Act) = ⟨t, f⟩
  congr 1
  apply Array.ext
  · simp
  · intro i h1 h2
    rw [Array.getElem_setIfInBounds]
    split
    · rename_i e; subst e; simp [h2]
    · rfl
theorem fill_ext {ops : Array Oper} {a : Act} {v u : Nat → Value} : ∀ k, (∀ j, j < k → v j = u j) → fill ops a v k = fill ops a u k
  | 0, _ => rfl
  | k + 1, h => by rw [fill, fill, fill_ext k (fun j hj => h j (by omega)), h k (by omega)]
theorem fill_self {ops : Array Oper} {a : Act} : ∀ k, fill ops a (fun i => match slotOf ops i with | some d => a.tmps.getD d undef | none => undef) k = a
  | 0 => rfl
  | k + 1 => by
    rw [fill, fill_self k]
    cases h : slotOf ops k with
    | none => rfl
    | some d => exact put_self a d
theorem fill_upd {ops : Array Oper} {a : Act} {v : Nat → Value} {n : Nat} (hne : ∀ i j d, i < n → j < n → slotOf ops i = some d → slotOf ops j = some d → i = j) {i : Nat} (x : Value) :
    ∀ k, i < k → k ≤ n → (fill ops a v k).put (slotOf ops i) x = fill ops a (upd v i x) k
  | 0, h, _ => by omega
  | k + 1, h, hk => by
    rcases Nat.lt_or_ge i k with g | g
    · have hx : upd v i x k = v k := by unfold upd; rw [if_neg (by omega)]
      rw [fill, fill, ← fill_upd hne x k g (by omega), hx, Act.put_comm _ _ _ (fun d hd hd2 => by have := hne i k d (by omega) (by omega) hd2 hd; omega)]
    · obtain rfl : i = k := by omega
      have hx : upd v i x i = x := by unfold upd; rw [if_pos rfl]
      rw [fill, fill, put_put, hx, show fill ops a (upd v i x) i = fill ops a v i from fill_ext i (fun j hj => by unfold upd; rw [if_neg (by omega)])]

theorem filter_less {α : Type} {p q : α → Bool} (h : ∀ x, q x = true → p x = true) {y : α} (hy : p y = true) (hn : q y = false) : ∀ l : List α, y ∈ l → (l.filter q).length < (l.filter p).length
  | [], hm => by cases hm
  | x :: l, hm => by
    have hle : (l.filter q).length ≤ (l.filter p).length := by
      clear hm
      induction l with
      | nil => exact Nat.le_refl _
      | cons z l ih =>
        cases hq : q z with
        | true => rw [List.filter_cons_of_pos hq, List.filter_cons_of_pos (h z hq)]; simpa using ih
        | false =>
          rw [List.filter_cons_of_neg (by simp [hq])]
          cases hp : p z with
          | true => rw [List.filter_cons_of_pos hp, List.length_cons]; omega
          | false => rw [List.filter_cons_of_neg (by simp [hp])]; exact ih
    rcases List.mem_cons.1 hm with rfl | hm
    · rw [List.filter_cons_of_neg (by simp [hn]), List.filter_cons_of_pos hy, List.length_cons]; omega
    · have ih := filter_less h hy hn l hm
      cases hq : q x with
      | true => rw [List.filter_cons_of_pos hq, List.filter_cons_of_pos (h x hq), List.length_cons, List.length_cons]; omega
      | false =>
        rw [List.filter_cons_of_neg (by simp [hq])]
        cases hp : p x with
        | true => rw [List.filter_cons_of_pos hp, List.length_cons]; omega
        | false => rw [List.filter_cons_of_neg (by simp [hp])]; exact ih

/-- The law. J: what is held of the world all along; F i x w: what is known of operation i's value once it has come up. -/
theorem wp_region_fill {P : Program} {ops : Array Oper} {Q : Exit → Act → World → Prop} {id : Nat} {a : Act} {w : World} (hm : P.follows .mixedOrders = true)
    (hne : ((List.range ops.size).all fun i => (List.range ops.size).all fun j => decide (i = j) || (slotOf ops i == none) || !(slotOf ops i == slotOf ops j)) = true)
    (hac : ((List.range ops.size).all fun i => (ops[i]?).all fun (o : Oper) => o.after.all fun (e : Edge) => !Region.binds .any e || decide (e.on < i)) = true)
    (J : World → Prop) (F : Nat → Value → World → Prop) (hJ : J w.drew)
    (step : ∀ (i : Nat) (o : Oper), ops[i]? = some o → ∀ (v : Nat → Value) (w1 : World) (K : Act → World → Prop), J w1 → (∀ e : Edge, e ∈ o.after → Region.binds .any e = true → F e.on (v e.on) w1) →
      (∀ x w2, J w2 → F i x w2 → (∀ j y, F j y w1 → F j y w2) → ∀ a2, a2 = (fill ops a v ops.size).put o.dst x → K a2 w2) →
      if Region.wanted o (yielded ops (fill ops a v ops.size).tmps) = true then Oper.wp P o (fill ops a v ops.size) w1 K Q else K ((fill ops a v ops.size).put o.dst undef) w1)
    (last : ∀ (v : Nat → Value) (w1 : World), J w1 → (∀ i, i < ops.size → F i (v i) w1) → Q .normal (fill ops a v ops.size) w1) : (Code.region id ops true).wp P Q a w := by
  have hne2 : ∀ i j d, i < ops.size → j < ops.size → slotOf ops i = some d → slotOf ops j = some d → i = j := by
    intro i j d hi hj h1 h2
    have := List.all_eq_true.1 (List.all_eq_true.1 hne i (List.mem_range.2 hi)) j (List.mem_range.2 hj)
    rw [h1, h2] at this
    simpa using this
  have hac2 : ∀ (i : Nat) (o : Oper), ops[i]? = some o → ∀ e : Edge, e ∈ o.after → Region.binds .any e = true → e.on < i := by
    intro i o ho e he hb
    have hlt := (Array.getElem?_eq_some_iff.1 ho).1
    have := List.all_eq_true.1 hac i (List.mem_range.2 hlt)
    rw [ho] at this
    have h3 : (o.after.all fun (e : Edge) => !Region.binds .any e || decide (e.on < i)) = true := this
    have h2 := Array.all_eq_true_iff_forall_mem.1 h3 e he
    rw [hb] at h2
    simpa using h2
  refine wp_region_any hm ?_
  have key : ∀ (fuel : Nat) (listed : Array Bool) (v : Nat → Value) (w1 : World), listed.size = ops.size → J w1 → (∀ i, listed.getD i false = true → F i (v i) w1) →
      ((List.range ops.size).filter fun i => !listed.getD i true).length ≤ fuel → wpAny P .any ops Q fuel listed (fill ops a v ops.size) w1 := by
    intro fuel
    induction fuel with
    | zero =>
      intro listed v w1 hsz hj hf hc
      have hall : ∀ i, i < ops.size → listed.getD i true = true := by
        intro i hi
        cases hl : listed.getD i true with
        | true => rfl
        | false =>
          have : i ∈ (List.range ops.size).filter fun i => !listed.getD i true := List.mem_filter.2 ⟨List.mem_range.2 hi, by rw [hl]; rfl⟩
          rw [List.eq_nil_of_length_eq_zero (by omega : ((List.range ops.size).filter fun i => !listed.getD i true).length = 0)] at this
          cases this
      have hr : Region.ready .any ops listed = [] := by
        rw [List.eq_nil_iff_forall_not_mem]
        intro i hi
        obtain ⟨h1, o, ho, _⟩ := mem_ready.1 hi
        rw [hall i (Array.getElem?_eq_some_iff.1 ho).1] at h1
        cases h1
      refine ⟨hr, last v w1 hj fun i hi => hf i ?_⟩
      have := hall i hi
      simpa [hsz, hi] using this
    | succ fuel ih =>
      intro listed v w1 hsz hj hf hc
      refine ⟨fun hr => last v w1 hj fun i hi => hf i ?_, fun i hi => ?_⟩
      · have : ∀ k, k < ops.size → listed.getD k false = true := by
          intro k
          induction k using Nat.strongRecOn with
          | _ k ihk =>
            intro hk
            cases hl : listed.getD k false with
            | true => rfl
            | false =>
              exfalso
              have hmem : k ∈ Region.ready .any ops listed := mem_ready.2 ⟨by simpa [hsz, hk] using hl, ops[k], by simp [hk], fun e he hb => ihk e.on (hac2 k _ (by simp [hk]) e he hb) (by have := hac2 k _ (by simp [hk] : ops[k]? = some ops[k]) e he hb; omega)⟩
              rw [hr] at hmem
              cases hmem
        exact this i hi
      · obtain ⟨h1, o, ho, h2⟩ := mem_ready.1 hi
        have hlt : i < ops.size := (Array.getElem?_eq_some_iff.1 ho).1
        have hst := step i o ho v w1 (wpAny P .any ops Q fuel (listed.setIfInBounds i true)) hj (fun e he hb => hf e.on (h2 e he hb)) (fun x w2 hj2 hF hmono a2 ha2 => by
          have hso : slotOf ops i = o.dst := by unfold slotOf; rw [ho]; rfl
          rw [ha2, ← hso, fill_upd hne2 x ops.size hlt (Nat.le_refl _)]
          refine ih (listed.setIfInBounds i true) (upd v i x) w2 (by simpa using hsz) hj2 (fun j hjl => ?_) ?_
          · unfold upd
            by_cases e : j = i
            · rw [if_pos e, e]; exact hF
            · rw [if_neg e]
              refine hmono j _ (hf j ?_)
              have hji : ¬ i = j := fun h => e h.symm
              simpa [Array.getD_eq_getD_getElem?, Array.getElem?_setIfInBounds, hji] using hjl
          · have hlt3 := filter_less (p := fun i => !listed.getD i true) (q := fun j => !(listed.setIfInBounds i true).getD j true) (y := i) (fun j hjq => by
              by_cases e : i = j
              · subst e; simpa using h1
              · simpa [Array.getD_eq_getD_getElem?, Array.getElem?_setIfInBounds, e] using hjq) (by simpa using h1) (by simp [Array.getD_eq_getD_getElem?, hsz, hlt]) (List.range ops.size) (List.mem_range.2 hlt)
            omega)
        unfold wpOp
        rw [ho]
        show if Region.wanted o (yielded ops (fill ops a v ops.size).tmps) = true then _ else _
        split at hst
        · rename_i hw; rw [if_pos hw]; exact .inl hst
        · rename_i hw; rw [if_neg hw]; exact hst
  have h0 := key ops.size (Array.replicate ops.size false) (fun i => match slotOf ops i with | some d => a.tmps.getD d undef | none => undef) w.drew (by simp) hJ (fun i hi => by
    exfalso
    by_cases hlt : i < ops.size <;> simp [Array.getD_eq_getD_getElem?, hlt] at hi) (Nat.le_trans (List.length_filter_le _ _) (by simp))
  rw [fill_self] at h0
  exact h0

/-- The law at its widest: I L v w: what holds when the operations of L have come up and left the values v. -/
theorem wp_region_inv {P : Program} {ops : Array Oper} {Q : Exit → Act → World → Prop} {id : Nat} {a : Act} {w : World} (hm : P.follows .mixedOrders = true)
    (hne : ((List.range ops.size).all fun i => (List.range ops.size).all fun j => decide (i = j) || (slotOf ops i == none) || !(slotOf ops i == slotOf ops j)) = true)
    (hac : ((List.range ops.size).all fun i => (ops[i]?).all fun (o : Oper) => o.after.all fun (e : Edge) => !Region.binds .any e || decide (e.on < i)) = true)
    (I : (Nat → Bool) → (Nat → Value) → World → Prop) (h0 : ∀ v, I (fun _ => false) v w.drew)
    (step : ∀ (i : Nat) (o : Oper), ops[i]? = some o → ∀ (L : Nat → Bool) (v : Nat → Value) (w1 : World) (K : Act → World → Prop), I L v w1 → L i = false → (∀ e : Edge, e ∈ o.after → Region.binds .any e = true → L e.on = true) →
      (∀ x w2, I (fun j => L j || decide (j = i)) (upd v i x) w2 → ∀ a2, a2 = (fill ops a v ops.size).put o.dst x → K a2 w2) →
      if Region.wanted o (yielded ops (fill ops a v ops.size).tmps) = true then Oper.wp P o (fill ops a v ops.size) w1 K Q else K ((fill ops a v ops.size).put o.dst undef) w1)
    (last : ∀ (L : Nat → Bool) (v : Nat → Value) (w1 : World), I L v w1 → (∀ i, i < ops.size → L i = true) → Q .normal (fill ops a v ops.size) w1) : (Code.region id ops true).wp P Q a w := by
  have hne2 : ∀ i j d, i < ops.size → j < ops.size → slotOf ops i = some d → slotOf ops j = some d → i = j := by
    intro i j d hi hj h1 h2
    have := List.all_eq_true.1 (List.all_eq_true.1 hne i (List.mem_range.2 hi)) j (List.mem_range.2 hj)
    rw [h1, h2] at this
    simpa using this
  have hac2 : ∀ (i : Nat) (o : Oper), ops[i]? = some o → ∀ e : Edge, e ∈ o.after → Region.binds .any e = true → e.on < i := by
    intro i o ho e he hb
    have hlt := (Array.getElem?_eq_some_iff.1 ho).1
    have := List.all_eq_true.1 hac i (List.mem_range.2 hlt)
    rw [ho] at this
    have h3 : (o.after.all fun (e : Edge) => !Region.binds .any e || decide (e.on < i)) = true := this
    have h2 := Array.all_eq_true_iff_forall_mem.1 h3 e he
    rw [hb] at h2
    simpa using h2
  refine wp_region_any hm ?_
  have key : ∀ (fuel : Nat) (listed : Array Bool) (v : Nat → Value) (w1 : World), listed.size = ops.size → I (fun i => listed.getD i false) v w1 →
      ((List.range ops.size).filter fun i => !listed.getD i true).length ≤ fuel → wpAny P .any ops Q fuel listed (fill ops a v ops.size) w1 := by
    intro fuel
    induction fuel with
    | zero =>
      intro listed v w1 hsz hI hc
      have hall : ∀ i, i < ops.size → listed.getD i true = true := by
        intro i hi
        cases hl : listed.getD i true with
        | true => rfl
        | false =>
          have : i ∈ (List.range ops.size).filter fun i => !listed.getD i true := List.mem_filter.2 ⟨List.mem_range.2 hi, by rw [hl]; rfl⟩
          rw [List.eq_nil_of_length_eq_zero (by omega : ((List.range ops.size).filter fun i => !listed.getD i true).length = 0)] at this
          cases this
      have hr : Region.ready .any ops listed = [] := by
        rw [List.eq_nil_iff_forall_not_mem]
        intro i hi
        obtain ⟨h1, o, ho, _⟩ := mem_ready.1 hi
        rw [hall i (Array.getElem?_eq_some_iff.1 ho).1] at h1
        cases h1
      refine ⟨hr, last _ v w1 hI fun i hi => ?_⟩
      have := hall i hi
      simpa [hsz, hi] using this
    | succ fuel ih =>
      intro listed v w1 hsz hI hc
      refine ⟨fun hr => last _ v w1 hI fun i hi => ?_, fun i hi => ?_⟩
      · have : ∀ k, k < ops.size → listed.getD k false = true := by
          intro k
          induction k using Nat.strongRecOn with
          | _ k ihk =>
            intro hk
            cases hl : listed.getD k false with
            | true => rfl
            | false =>
              exfalso
              have hmem : k ∈ Region.ready .any ops listed := mem_ready.2 ⟨by simpa [hsz, hk] using hl, ops[k], by simp [hk], fun e he hb => ihk e.on (hac2 k _ (by simp [hk]) e he hb) (by have := hac2 k _ (by simp [hk] : ops[k]? = some ops[k]) e he hb; omega)⟩
              rw [hr] at hmem
              cases hmem
        exact this i hi
      · obtain ⟨h1, o, ho, h2⟩ := mem_ready.1 hi
        have hlt : i < ops.size := (Array.getElem?_eq_some_iff.1 ho).1
        have hst := step i o ho (fun i => listed.getD i false) v w1 (wpAny P .any ops Q fuel (listed.setIfInBounds i true)) hI (by simpa [hsz, hlt] using h1) h2 (fun x w2 hI2 a2 ha2 => by
          have hso : slotOf ops i = o.dst := by unfold slotOf; rw [ho]; rfl
          rw [ha2, ← hso, fill_upd hne2 x ops.size hlt (Nat.le_refl _)]
          refine ih (listed.setIfInBounds i true) (upd v i x) w2 (by simpa using hsz) ?_ ?_
          · have he : (fun j => (listed.setIfInBounds i true).getD j false) = fun j => listed.getD j false || decide (j = i) := by
              funext j
              by_cases e : j = i
              · subst e; simp [Array.getD_eq_getD_getElem?, hsz, hlt]
              · have e2 : ¬ i = j := fun h => e h.symm
                simp [Array.getD_eq_getD_getElem?, e, e2]
            rw [he]; exact hI2
          · have hlt3 := filter_less (p := fun i => !listed.getD i true) (q := fun j => !(listed.setIfInBounds i true).getD j true) (y := i) (fun j hjq => by
              by_cases e : i = j
              · subst e; simpa using h1
              · simpa [Array.getD_eq_getD_getElem?, Array.getElem?_setIfInBounds, e] using hjq) (by simpa using h1) (by simp [Array.getD_eq_getD_getElem?, hsz, hlt]) (List.range ops.size) (List.mem_range.2 hlt)
            omega)
        unfold wpOp
        rw [ho]
        show if Region.wanted o (yielded ops (fill ops a v ops.size).tmps) = true then _ else _
        split at hst
        · rename_i hw; rw [if_pos hw]; exact .inl hst
        · rename_i hw; rw [if_neg hw]; exact hst
  have hk := key ops.size (Array.replicate ops.size false) (fun i => match slotOf ops i with | some d => a.tmps.getD d undef | none => undef) w.drew (by simp) (by
    have he : (fun i => (Array.replicate ops.size false).getD i false) = fun _ => false := by
      funext i
      by_cases hlt : i < ops.size <;> simp [Array.getD_eq_getD_getElem?, hlt]
    rw [he]; exact h0 _) (Nat.le_trans (List.length_filter_le _ _) (by simp))
  rw [fill_self] at hk
  exact hk
end Go.Proofs.YtadfmenlpnibnaaGreat
end PkMS2_2
section PkMS2_3
/- Values told of by a property; a row that a call owns, where its block stands. -/
namespace Go.Proofs.YtadfmenlpnibnaaGreat
open Go.RowKit
set_option linter.unusedVariables false

/-- values that are known, or told of by a property -/
def FV (vals : Nat → Option Value) (sp : Value → World → Prop) (j : Nat) (u : Value) (w : World) : Prop := match vals j with | some v => u = v | none => sp u w
theorem FV.mono {vals : Nat → Option Value} {sp : Value → World → Prop} {w w' : World} (h : ∀ u, sp u w → sp u w') : ∀ j y, FV vals sp j y w → FV vals sp j y w' := fun j y hy => by
  unfold FV at hy ⊢
  split at hy
  · exact hy
  · exact h y hy

/-- the same, each operation with a property of its own -/
def FV2 (vals : Nat → Option Value) (sp : Nat → Value → World → Prop) (j : Nat) (u : Value) (w : World) : Prop := match vals j with | some v => u = v | none => sp j u w
theorem FV2.mono {vals : Nat → Option Value} {sp : Nat → Value → World → Prop} {w w' : World} (h : ∀ j u, sp j u w → sp j u w') : ∀ j y, FV2 vals sp j y w → FV2 vals sp j y w' := fun j y hy => by
  unfold FV2 at hy ⊢
  split at hy
  · exact hy
  · exact h j y hy
theorem own_heap {w w' : World} {base : Nat} {e : TypeId} {size : Nat} {v : Value} {n : Nat} {xs : List Value} (h : w.ownsRow base e size v n xs) (hb : ∀ g, v.ownBlock = some g → w'.heap[g]? = w.heap[g]?) : w'.ownsRow base e size v n xs := by
  refine ⟨h.1, ?_⟩
  rcases h.2 with h0 | ⟨g, cap, cur, h1, h2, h3, h4⟩
  · exact .inl h0
  · refine .inr ⟨g, cap, cur, h1, h2, ?_, h4⟩
    rw [hb g (by rw [h1]; rfl)]; exact h3
end Go.Proofs.YtadfmenlpnibnaaGreat
end PkMS2_3
section PkMS2_4
/- A region whose operations come up in any order (wp_region_fill), in few words: what an operation waited for is told as equations of its slots. -/
namespace Go.Proofs.YtadfmenlpnibnaaGreat
open Go.RowKit
set_option linter.unusedVariables false

/-- what is known of the slots that were waited for -/
def KnC (vals : Nat → Option Value) (V : Nat → Value) : List Edge → Prop
  | [] => True
  | e :: r => (match Region.binds .any e with | true => (match vals e.on with | some x => V e.on = x | none => True) | false => True) ∧ KnC vals V r
theorem knC_of {vals : Nat → Option Value} {V : Nat → Value} : ∀ {l : List Edge}, (∀ e ∈ l, Region.binds .any e = true → ∀ x, vals e.on = some x → V e.on = x) → KnC vals V l
  | [], _ => trivial
  | e :: r, h => by
    refine ⟨?_, knC_of (fun e' he => h e' (List.mem_cons_of_mem _ he))⟩
    cases hb : Region.binds .any e with
    | false => trivial
    | true =>
      cases hv : vals e.on with
      | none => trivial
      | some x => exact h e List.mem_cons_self hb x hv
theorem FV.kn {vals : Nat → Option Value} {sp : Value → World → Prop} : ∀ j x v w, vals j = some x → FV vals sp j v w → v = x := fun j x v w h hf => by unfold FV at hf; rw [h] at hf; exact hf
theorem FV2.kn {vals : Nat → Option Value} {sp : Nat → Value → World → Prop} : ∀ j x v w, vals j = some x → FV2 vals sp j v w → v = x := fun j x v w h hf => by unfold FV2 at hf; rw [h] at hf; exact hf
/-- of each operation, in their order -/
def AllOps (f : Nat → Oper → Prop) : List Oper → Nat → Prop
  | [], _ => True
  | o :: r, i => f i o ∧ AllOps f r (i + 1)
theorem allOps_at {f : Nat → Oper → Prop} : ∀ {l : List Oper} {k i : Nat} {o : Oper}, AllOps f l k → l[i]? = some o → f (k + i) o
  | [], _, _, _, _, h => by cases h
  | x :: r, k, 0, o, h, e => by cases e; exact h.1
  | x :: r, k, i + 1, o, h, e => by
    have := allOps_at (i := i) h.2 e
    rwa [show k + (i + 1) = k + 1 + i by omega]
theorem wp_region_fillC {P : Program} {ops : Array Oper} {Q : Exit → Act → World → Prop} {id : Nat} {a : Act} {w : World} (hm : P.follows .mixedOrders = true)
    (hne : ((List.range ops.size).all fun i => (List.range ops.size).all fun j => decide (i = j) || (slotOf ops i == none) || !(slotOf ops i == slotOf ops j)) = true)
    (hac : ((List.range ops.size).all fun i => (ops[i]?).all fun (o : Oper) => o.after.all fun (e : Edge) => !Region.binds .any e || decide (e.on < i)) = true)
    (J : World → Prop) (F : Nat → Value → World → Prop) {vals : Nat → Option Value} (hF : ∀ j x v w, vals j = some x → F j v w → v = x) (hJ : J w.drew)
    (step : AllOps (fun i o => ∀ (v : Nat → Value) (w1 : World) (K : Act → World → Prop), J w1 → (∀ e : Edge, e ∈ o.after → Region.binds .any e = true → F e.on (v e.on) w1) → KnC vals v o.after.toList →
      (∀ x w2, J w2 → F i x w2 → (∀ j y, F j y w1 → F j y w2) → ∀ a2, a2 = (fill ops a v ops.size).put o.dst x → K a2 w2) →
      if Region.wanted o (yielded ops (fill ops a v ops.size).tmps) = true then Oper.wp P o (fill ops a v ops.size) w1 K Q else K ((fill ops a v ops.size).put o.dst undef) w1) ops.toList 0)
    (last : ∀ (v : Nat → Value) (w1 : World), J w1 → (∀ i, i < ops.size → F i (v i) w1) → Q .normal (fill ops a v ops.size) w1) : (Code.region id ops true).wp P Q a w :=
  wp_region_fill hm hne hac J F hJ (fun i o ho v w1 K hj hd hK => by
    have h := allOps_at step (show ops.toList[i]? = some o by rw [Array.getElem?_toList]; exact ho)
    rw [Nat.zero_add] at h
    exact h v w1 K hj hd (knC_of fun e he hb x hx => hF _ _ _ _ hx (hd e (Array.mem_toList_iff.1 he) hb)) hK) last
end Go.Proofs.YtadfmenlpnibnaaGreat
end PkMS2_4
section PkMS2_5
/- What rises, and is right one by one: plain. Written by genmfr.py. -/
namespace Go.Proofs.YtadfmenlpnibnaaGreat
open Go.RowKit
set_option linter.unusedVariables false

/-- each is right, and above the one ahead -/
def RisOk {α : Type} (p : α → Bool) (cm : α → α → Int) (d : α) (l : List α) (k : Nat) : Prop := ∀ j, j < k → p (l.getD j d) = true ∧ (0 < j → cm (l.getD (j - 1) d) (l.getD j d) < 0)
def RisIs {α : Type} (p : α → Bool) (cm : α → α → Int) (d : α) (l : List α) (n : Nat) (e : Ending) : Prop := ∃ b : Bool, e = .returned (.bool b) ∧ (b = true ↔ RisOk p cm d l n)
theorem RisOk.succ {α : Type} {p : α → Bool} {cm : α → α → Int} {d : α} {l : List α} {k : Nat} (h : RisOk p cm d l k) (h1 : p (l.getD k d) = true) (h2 : 0 < k → cm (l.getD (k - 1) d) (l.getD k d) < 0) : RisOk p cm d l (k + 1) := fun j hj => by
  rcases Nat.lt_or_ge j k with g | g
  · exact h j g
  · obtain rfl : j = k := by omega
    exact ⟨h1, h2⟩
theorem RisIs.no {α : Type} {p : α → Bool} {cm : α → α → Int} {d : α} {l : List α} {k n : Nat} (hk : k < n) (h : ¬ (p (l.getD k d) = true ∧ (0 < k → cm (l.getD (k - 1) d) (l.getD k d) < 0))) : RisIs p cm d l n (.returned (.bool false)) :=
  ⟨false, rfl, ⟨fun e => (by cases e), fun g => absurd (g k hk) h⟩⟩
theorem RisIs.yes {α : Type} {p : α → Bool} {cm : α → α → Int} {d : α} {l : List α} {n : Nat} (h : RisOk p cm d l n) : RisIs p cm d l n (.returned (.bool true)) := ⟨true, rfl, ⟨fun _ => h, fun _ => rfl⟩⟩

end Go.Proofs.YtadfmenlpnibnaaGreat
end PkMS2_5
