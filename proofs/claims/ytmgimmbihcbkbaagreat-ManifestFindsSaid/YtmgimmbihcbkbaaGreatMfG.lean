/- Manifests: layer 13's fixed edit, made on the manifest of nothing, walked. Written by genmfg.py. -/
import Derived.Test.YtmgimmbihcbkbaaGreatMfE
import Derived.Test.YtmgimmbihcbkbaaGreatMfF
import Derived.Maps.OwnSet
import Derived.Lib.MinMax
namespace Go.Proofs.YtmgimmbihcbkbaaGreat
open Go.RowKit LabPlain
set_option linter.unusedVariables false

/-- what a store into one cell leaves -/
structure SetAt (w : World) (B : Nat) (cs : Array Value) (t : TypeId) (w' : World) : Prop where
  row : w'.heap[B]? = some (.cells cs t (0, 0))
  other : ∀ k, k ≠ B → w'.heap[k]? = w.heap[k]?
theorem cells_set {w : World} {B : Nat} {cs : Array Value} {t : TypeId} (g : w.heap[B]? = some (.cells cs t (0, 0))) (i : Nat) (u : Value) : SetAt w B (cs.setIfInBounds i u) t (w.setCell ⟨B, i, none⟩ u) :=
  ⟨heap_set g i u, fun k hk => Below.heap_setCell w _ u k hk⟩
theorem vec_set {α : Type} {S : Sty α} {w : World} {a : Option Addr} {n c : Nat} {l : List α} {B i : Nat} {u : Value} (h : VecAt S w a n c l) (hok : ∀ x, S.ok w x → S.ok (w.setCell ⟨B, i, none⟩ u) x) (hne : ∀ b off s, a = some ⟨b, off, s⟩ → b ≠ B) : VecAt S (w.setCell ⟨B, i, none⟩ u) a n c l :=
  ⟨h.len, h.cap, h.capm, h.nl, fun x hx => hok x (h.all x hx), fun hn => by
    obtain ⟨b, off, ha, hlt, hc⟩ := h.cells hn
    have hb : (w.setCell ⟨B, i, none⟩ u).heap[b]? = w.heap[b]? := Below.heap_setCell w _ u b (hne b off none ha)
    refine ⟨b, off, ha, by simpa using hlt, fun i hi j v hv => ?_⟩
    exact (World.cell?_of_block (w := w) (a := ⟨b, _, none⟩) hb).trans (hc i hi j v hv)⟩
theorem clone_nilO' (w : World) : Calls Tryz.prog 30 #[.slice none 0 0] w fun e w' => e = .returned (.slice none 0 0) ∧ Below w.heap.size w w' :=
  (clone_nilO w).mono (fun e w' h => ⟨h.1, by rw [h.2]; exact Below.refl _ _⟩)
/-- a world in which the made manifest's last cell may have been set -/
structure JpA (w0 W : World) (B : Nat) (E M : Value) (w' : World) : Prop where
  below : Below w0.heap.size w0 w'
  size : W.heap.size ≤ w'.heap.size
  old : ∀ k, k < W.heap.size → k ≠ B → w'.heap[k]? = W.heap[k]?
  row : ∃ x, w'.heap[B]? = some (.cells #[.int .i64 1, .int .i64 0, .int .i64 0, E, M, x] 26 (0, 0))
theorem JpA.lt {w0 W w' : World} {B : Nat} {E M : Value} (h : JpA w0 W B E M w') : B < w'.heap.size := by
  obtain ⟨x, hx⟩ := h.row
  exact (Array.getElem?_eq_some_iff.1 hx).1
theorem JpA.trans {w0 W w' w'' : World} {B : Nat} {E M : Value} (h : JpA w0 W B E M w') (hb : Below w'.heap.size w' w'') : JpA w0 W B E M w'' :=
  ⟨h.below.trans (hb.mono h.below.size), Nat.le_trans h.size hb.size, fun k hk hn => (hb.block k (Nat.lt_of_lt_of_le hk h.size)).trans (h.old k hk hn), by
    obtain ⟨x, hx⟩ := h.row
    exact ⟨x, (hb.block B h.lt).trans hx⟩⟩
theorem JpA.drew {w0 W w' : World} {B : Nat} {E M : Value} (h : JpA w0 W B E M w') : JpA w0 W B E M w'.drew := ⟨h.below.drew, h.size, h.old, h.row⟩
theorem JpA.set {w0 W w' : World} {B : Nat} {E M : Value} (h : JpA w0 W B E M w') (hB : w0.heap.size ≤ B) (u : Value) : JpA w0 W B E M (w'.setCell ⟨B, 5, none⟩ u) := by
  obtain ⟨x, hx⟩ := h.row
  exact ⟨h.below.setCell hB u, by simpa using h.size, fun k hk hn => ((cells_set hx 5 u).other k hn).trans (h.old k hk hn), u, (cells_set hx 5 u).row⟩
/-- what the owners' row and the store of it leave -/
@[reducible] def SpA (B : Nat) (E M : Value) (j : Nat) (u : Value) (w : World) : Prop := match j with
  | 5 => ∃ g2 c2, u = .slice (some ⟨g2, 0, none⟩) 1 c2 ∧ B < g2 ∧ VecAt OwnS w (some ⟨g2, 0, none⟩) 1 c2 [(1, 1, 1)]
  | 7 => ∃ g2 c2, w.heap[B]? = some (.cells #[.int .i64 1, .int .i64 0, .int .i64 0, E, M, .slice (some ⟨g2, 0, none⟩) 1 c2] 26 (0, 0)) ∧ VecAt OwnS w (some ⟨g2, 0, none⟩) 1 c2 [(1, 1, 1)] ∧ B < g2
  | _ => True
theorem SpA.at5 {B : Nat} {E M : Value} {w : World} {g2 c2 : Nat} (h : B < g2) (hv : VecAt OwnS w (some ⟨g2, 0, none⟩) 1 c2 [(1, 1, 1)]) : SpA B E M 5 (.slice (some ⟨g2, 0, none⟩) 1 c2) w := ⟨g2, c2, rfl, h, hv⟩
theorem SpA.mono {B : Nat} {E M : Value} {w w' : World} (hB : B < w.heap.size) (h : Below w.heap.size w w') : ∀ j u, SpA B E M j u w → SpA B E M j u w' := by
  intro j u hu
  unfold SpA at hu ⊢
  split at hu
  · obtain ⟨g2, c2, e, h1, h2⟩ := hu
    exact ⟨g2, c2, e, h1, h2.kept h⟩
  · obtain ⟨g2, c2, h1, h2, h3⟩ := hu
    exact ⟨g2, c2, (h.block B hB).trans h1, h2.kept h, h3⟩
  · trivial
theorem SpA.at7 {B : Nat} {E M x : Value} {w : World} {g2 c2 : Nat} {u : Value} (h : B < g2) (hx : w.heap[B]? = some (.cells #[.int .i64 1, .int .i64 0, .int .i64 0, E, M, x] 26 (0, 0))) (hv : VecAt OwnS w (some ⟨g2, 0, none⟩) 1 c2 [(1, 1, 1)]) : SpA B E M 7 u (w.setCell ⟨B, 5, none⟩ (.slice (some ⟨g2, 0, none⟩) 1 c2)) :=
  ⟨g2, c2, (cells_set hx 5 _).row, vec_set hv (fun _ h => h) (fun b off s e => by cases e; omega), h⟩
theorem SpA.set {B : Nat} {E M x : Value} {w : World} {g2 c2 : Nat} (h : B < g2) (hx : w.heap[B]? = some (.cells #[.int .i64 1, .int .i64 0, .int .i64 0, E, M, x] 26 (0, 0))) (hv : VecAt OwnS w (some ⟨g2, 0, none⟩) 1 c2 [(1, 1, 1)]) : ∀ j u, SpA B E M j u w → SpA B E M j u (w.setCell ⟨B, 5, none⟩ (.slice (some ⟨g2, 0, none⟩) 1 c2)) := by
  intro j u hu
  by_cases h7 : j = 7
  · subst h7
    exact SpA.at7 h hx hv
  · unfold SpA at hu ⊢
    split at hu
    · obtain ⟨g3, c3, e, h1, h2⟩ := hu
      exact ⟨g3, c3, e, h1, vec_set h2 (fun _ h => h) (fun b off s e => by cases e; omega)⟩
    · exact absurd rfl h7
    · trivial
theorem VecAt.kept2 {w0 W w' : World} {B g n c : Nat} {E M : Value} {l : List (Int × Int)} (h : VecAt MarkS W (some ⟨g, 0, none⟩) n c l) (hj : JpA w0 W B E M w') (hg : B < g) : VecAt MarkS w' (some ⟨g, 0, none⟩) n c l :=
  ⟨h.len, h.cap, h.capm, h.nl, fun _ _ => trivial, fun hn => by
    obtain ⟨b, off, ha, hlt, hc⟩ := h.cells hn
    have hb : w'.heap[b]? = W.heap[b]? := hj.old b hlt (by cases ha; omega)
    refine ⟨b, off, ha, Nat.lt_of_lt_of_le hlt hj.size, fun i hi j v hv => ?_⟩
    exact (World.cell?_of_block (w := W) (a := ⟨b, _, none⟩) hb).trans (hc i hi j v hv)⟩
/-- a manifest's six cells, set -/
theorem set6 {v : World} {R : Nat} {c0 c1 c2 c3 c4 c5 : Value} {t : TypeId} (g : v.heap[R]? = some (.cells #[c0, c1, c2, c3, c4, c5] t (0, 0))) (x0 x1 x2 x3 x4 x5 : Value) : ((((((v.setCell ⟨R, 0, none⟩ x0).setCell ⟨R, 1, none⟩ x1).setCell ⟨R, 2, none⟩ x2).setCell ⟨R, 3, none⟩ x3).setCell ⟨R, 4, none⟩ x4).setCell ⟨R, 5, none⟩ x5).heap[R]? = some (.cells #[x0, x1, x2, x3, x4, x5] t (0, 0)) := by
  have h := heap_set (heap_set (heap_set (heap_set (heap_set (heap_set g 0 x0) 1 x1) 2 x2) 3 x3) 4 x4) 5 x5
  simp only [List.setIfInBounds_toArray, List.set_cons_zero, List.set_cons_succ] at h
  exact h
theorem below6 {B R : Nat} {w v : World} (h : Below B w v) (hR : B ≤ R) (x0 x1 x2 x3 x4 x5 : Value) : Below B w ((((((v.setCell ⟨R, 0, none⟩ x0).setCell ⟨R, 1, none⟩ x1).setCell ⟨R, 2, none⟩ x2).setCell ⟨R, 3, none⟩ x3).setCell ⟨R, 4, none⟩ x4).setCell ⟨R, 5, none⟩ x5) :=
  (((((h.setCell (p := ⟨R, 0, none⟩) hR x0).setCell (p := ⟨R, 1, none⟩) hR x1).setCell (p := ⟨R, 2, none⟩) hR x2).setCell (p := ⟨R, 3, none⟩) hR x3).setCell (p := ⟨R, 4, none⟩) hR x4).setCell (p := ⟨R, 5, none⟩) hR x5
theorem vec6 {α : Type} {S : Sty α} {v : World} {R g : Nat} {n c : Nat} {l : List α} (h : VecAt S v (some ⟨g, 0, none⟩) n c l) (hok : ∀ (w w' : World) x, S.ok w x → S.ok w' x) (hne : g ≠ R) (x0 x1 x2 x3 x4 x5 : Value) : VecAt S ((((((v.setCell ⟨R, 0, none⟩ x0).setCell ⟨R, 1, none⟩ x1).setCell ⟨R, 2, none⟩ x2).setCell ⟨R, 3, none⟩ x3).setCell ⟨R, 4, none⟩ x4).setCell ⟨R, 5, none⟩ x5) (some ⟨g, 0, none⟩) n c l := by
  have hn : ∀ b off s, (some (⟨g, 0, none⟩ : Addr)) = some ⟨b, off, s⟩ → b ≠ R := fun b off s e => by cases e; exact hne
  exact vec_set (vec_set (vec_set (vec_set (vec_set (vec_set h (hok _ _) hn) (hok _ _) hn) (hok _ _) hn) (hok _ _) hn) (hok _ _) hn) (hok _ _) hn

set_option maxRecDepth 100000 in
set_option maxHeartbeats 8000000 in
theorem apply_fix {w : World} {g c : Nat} (h : VecAt MarkS w (some ⟨g, 0, none⟩) 1 c [(1, 5)]) :
    Calls Tryz.prog 12 #[.agg #[.int .i64 0, .int .i64 0, .int .i64 0, .slice none 0 0, .slice none 0 0, .slice none 0 0], .agg #[.slice none 0 0, .slice none 0 0, .slice (some ⟨g, 0, none⟩) 1 c, .int .i64 0, .int .i64 0, .int .i64 1, .int .i64 1, .int .i64 1]] w fun e w' => ∃ ea ec g1 c1 g2 c2, e = .returned (.tuple #[.agg #[.int .i64 1, .int .i64 0, .int .i64 0, .slice ea 0 ec, .slice (some ⟨g1, 0, none⟩) 1 c1, .slice (some ⟨g2, 0, none⟩) 1 c2], .int .i64 0]) ∧ VecAt MarkS w' (some ⟨g1, 0, none⟩) 1 c1 [(1, 5)] ∧ VecAt OwnS w' (some ⟨g2, 0, none⟩) 1 c2 [(1, 1, 1)] ∧ Below w.heap.size w w' := by
  have hcap := h.cap
  have hcm := h.capm
  obtain ⟨wa, hwa⟩ : ∃ wa, wa = w.alloc (.cells #[.int .i64 0, .int .i64 0, .int .i64 0, .slice none 0 0, .slice none 0 0, .slice none 0 0] 26) := ⟨_, rfl⟩
  obtain ⟨wb, hwb⟩ : ∃ wb, wb = wa.alloc (.cells #[.slice none 0 0, .slice none 0 0, .slice (some ⟨g, 0, none⟩) 1 c, .int .i64 0, .int .i64 0, .int .i64 1, .int .i64 1, .int .i64 1] 47) := ⟨_, rfl⟩
  obtain ⟨wc, hwc⟩ : ∃ wc, wc = wb.alloc (.cells #[.int .i64 0, .int .i64 0, .int .i64 0, .slice none 0 0, .slice none 0 0, .slice none 0 0] 26) := ⟨_, rfl⟩
  have sa : wa.heap.size = w.heap.size + 1 := by rw [hwa]; exact Array.size_push _
  have sb : wb.heap.size = w.heap.size + 2 := by rw [hwb]; show (wa.heap.push _).size = _; rw [Array.size_push, sa]
  have ba : Below w.heap.size w wa := by rw [hwa]; exact (Below.refl _ _).alloc (Nat.le_refl _) _
  have bb : Below w.heap.size w wb := by rw [hwb]; exact ba.alloc ba.size _
  have bc : Below w.heap.size w wc := by rw [hwc]; exact bb.alloc bb.size _
  have gc : wc.heap[w.heap.size + 1 + 1]? = some (.cells #[.int .i64 0, .int .i64 0, .int .i64 0, .slice none 0 0, .slice none 0 0, .slice none 0 0] 26 (0, 0)) := by rw [hwc, show w.heap.size + 1 + 1 = wb.heap.size from by omega]; exact heap_alloc_new _ _
  have gb : wc.heap[w.heap.size + 1]? = some (.cells #[.slice none 0 0, .slice none 0 0, .slice (some ⟨g, 0, none⟩) 1 c, .int .i64 0, .int .i64 0, .int .i64 1, .int .i64 1, .int .i64 1] 47 (0, 0)) := by rw [hwc, heap_alloc_old _ _ _ (by omega), hwb, ← sa]; exact heap_alloc_new _ _
  have ga : wc.heap[w.heap.size]? = some (.cells #[.int .i64 0, .int .i64 0, .int .i64 0, .slice none 0 0, .slice none 0 0, .slice none 0 0] 26 (0, 0)) := by rw [hwc, heap_alloc_old _ _ _ (by omega), hwb, heap_alloc_old _ _ _ (by omega), hwa]; exact heap_alloc_new _ _
  have HH := Lib.hid h
  have HBc := Lib.hid bc
  have G2wc := Lib.hid ga
  have G3wc := Lib.hid gb
  have G4wc := Lib.hid gc
  have HWC := Lib.hid (show ((w.alloc (.cells #[.int .i64 0, .int .i64 0, .int .i64 0, .slice none 0 0, .slice none 0 0, .slice none 0 0] 26)).alloc (.cells #[.slice none 0 0, .slice none 0 0, .slice (some ⟨g, 0, none⟩) 1 c, .int .i64 0, .int .i64 0, .int .i64 1, .int .i64 1, .int .i64 1] 47)).alloc (.cells #[.int .i64 0, .int .i64 0, .int .i64 0, .slice none 0 0, .slice none 0 0, .slice none 0 0] 26) = wc from by rw [hwc, hwb, hwa])
  have a0 : wc.cell? ⟨w.heap.size, 0, none⟩ = some (.int .i64 0) := cell_blk ga rfl
  have a1 : wc.cell? ⟨w.heap.size, 1, none⟩ = some (.int .i64 0) := cell_blk ga rfl
  have a2 : wc.cell? ⟨w.heap.size, 2, none⟩ = some (.int .i64 0) := cell_blk ga rfl
  have a3 : wc.cell? ⟨w.heap.size, 3, none⟩ = some (.slice none 0 0) := cell_blk ga rfl
  have a4 : wc.cell? ⟨w.heap.size, 4, none⟩ = some (.slice none 0 0) := cell_blk ga rfl
  have a5 : wc.cell? ⟨w.heap.size, 5, none⟩ = some (.slice none 0 0) := cell_blk ga rfl
  clear hwb hwa hwc sa sb ba bb bc gb ga gc h
  go_enter Tryz.func12, Tryz.ntmps12
  go_wp2_with fail
  rw [HWC.out]
  go_wp2_with fail
  refine (right_zero wc).mono ?_
  rintro e w1 ⟨rfl, hb1⟩
  have HB1 := Lib.hid (HBc.out.trans (hb1.mono HBc.out.size))
  have G2w1 := Lib.hid ((hb1.block (w.heap.size) (Array.getElem?_eq_some_iff.1 G2wc.out).1).trans G2wc.out)
  have G3w1 := Lib.hid ((hb1.block (w.heap.size + 1) (Array.getElem?_eq_some_iff.1 G3wc.out).1).trans G3wc.out)
  have G4w1 := Lib.hid ((hb1.block (w.heap.size + 1 + 1) (Array.getElem?_eq_some_iff.1 G4wc.out).1).trans G4wc.out)
  clear a0 a1 a2 a3 a4 a5
  have e0 : w1.cell? ⟨w.heap.size + 1, 0, none⟩ = some (.slice none 0 0) := cell_blk G3w1.out rfl
  have e1 : w1.cell? ⟨w.heap.size + 1, 1, none⟩ = some (.slice none 0 0) := cell_blk G3w1.out rfl
  have e2 : w1.cell? ⟨w.heap.size + 1, 2, none⟩ = some (.slice (some ⟨g, 0, none⟩) 1 c) := cell_blk G3w1.out rfl
  have e3 : w1.cell? ⟨w.heap.size + 1, 3, none⟩ = some (.int .i64 0) := cell_blk G3w1.out rfl
  have e4 : w1.cell? ⟨w.heap.size + 1, 4, none⟩ = some (.int .i64 0) := cell_blk G3w1.out rfl
  have e5 : w1.cell? ⟨w.heap.size + 1, 5, none⟩ = some (.int .i64 1) := cell_blk G3w1.out rfl
  have e6 : w1.cell? ⟨w.heap.size + 1, 6, none⟩ = some (.int .i64 1) := cell_blk G3w1.out rfl
  have e7 : w1.cell? ⟨w.heap.size + 1, 7, none⟩ = some (.int .i64 1) := cell_blk G3w1.out rfl
  have HRE := Lib.hid (rightEdit_yes (HH.out.kept HB1.out))
  clear hb1
  go_wp2_with fail
  refine HRE.out.mono ?_
  rintro e w2 ⟨rfl, hb2⟩
  have HB2 := Lib.hid (HB1.out.trans (hb2.mono HB1.out.size))
  have G2w2 := Lib.hid ((hb2.block (w.heap.size) (Array.getElem?_eq_some_iff.1 G2w1.out).1).trans G2w1.out)
  have G3w2 := Lib.hid ((hb2.block (w.heap.size + 1) (Array.getElem?_eq_some_iff.1 G3w1.out).1).trans G3w1.out)
  have G4w2 := Lib.hid ((hb2.block (w.heap.size + 1 + 1) (Array.getElem?_eq_some_iff.1 G4w1.out).1).trans G4w1.out)
  clear e0 e1 e2 e3 e4 e5 e6 e7
  have a0 : w2.cell? ⟨w.heap.size, 0, none⟩ = some (.int .i64 0) := cell_blk G2w2.out rfl
  have a1 : w2.cell? ⟨w.heap.size, 1, none⟩ = some (.int .i64 0) := cell_blk G2w2.out rfl
  have a2 : w2.cell? ⟨w.heap.size, 2, none⟩ = some (.int .i64 0) := cell_blk G2w2.out rfl
  have a3 : w2.cell? ⟨w.heap.size, 3, none⟩ = some (.slice none 0 0) := cell_blk G2w2.out rfl
  have a4 : w2.cell? ⟨w.heap.size, 4, none⟩ = some (.slice none 0 0) := cell_blk G2w2.out rfl
  have a5 : w2.cell? ⟨w.heap.size, 5, none⟩ = some (.slice none 0 0) := cell_blk G2w2.out rfl
  have e0 : w2.cell? ⟨w.heap.size + 1, 0, none⟩ = some (.slice none 0 0) := cell_blk G3w2.out rfl
  have e1 : w2.cell? ⟨w.heap.size + 1, 1, none⟩ = some (.slice none 0 0) := cell_blk G3w2.out rfl
  have e2 : w2.cell? ⟨w.heap.size + 1, 2, none⟩ = some (.slice (some ⟨g, 0, none⟩) 1 c) := cell_blk G3w2.out rfl
  have e3 : w2.cell? ⟨w.heap.size + 1, 3, none⟩ = some (.int .i64 0) := cell_blk G3w2.out rfl
  have e4 : w2.cell? ⟨w.heap.size + 1, 4, none⟩ = some (.int .i64 0) := cell_blk G3w2.out rfl
  have e5 : w2.cell? ⟨w.heap.size + 1, 5, none⟩ = some (.int .i64 1) := cell_blk G3w2.out rfl
  have e6 : w2.cell? ⟨w.heap.size + 1, 6, none⟩ = some (.int .i64 1) := cell_blk G3w2.out rfl
  have e7 : w2.cell? ⟨w.heap.size + 1, 7, none⟩ = some (.int .i64 1) := cell_blk G3w2.out rfl
  have HOD := Lib.hid (outdated_no (HH.out.kept HB2.out))
  clear hb2
  go_wp2_with fail
  refine HOD.out.mono ?_
  rintro e w3 ⟨rfl, hb3⟩
  have HB3 := Lib.hid (HB2.out.trans (hb3.mono HB2.out.size))
  have G2w3 := Lib.hid ((hb3.block (w.heap.size) (Array.getElem?_eq_some_iff.1 G2w2.out).1).trans G2w2.out)
  have G3w3 := Lib.hid ((hb3.block (w.heap.size + 1) (Array.getElem?_eq_some_iff.1 G3w2.out).1).trans G3w2.out)
  have G4w3 := Lib.hid ((hb3.block (w.heap.size + 1 + 1) (Array.getElem?_eq_some_iff.1 G4w2.out).1).trans G4w2.out)
  clear a0 a1 a2 a3 a4 a5 e0 e1 e2 e3 e4 e5 e6 e7
  have a0 : w3.cell? ⟨w.heap.size, 0, none⟩ = some (.int .i64 0) := cell_blk G2w3.out rfl
  have a1 : w3.cell? ⟨w.heap.size, 1, none⟩ = some (.int .i64 0) := cell_blk G2w3.out rfl
  have a2 : w3.cell? ⟨w.heap.size, 2, none⟩ = some (.int .i64 0) := cell_blk G2w3.out rfl
  have a3 : w3.cell? ⟨w.heap.size, 3, none⟩ = some (.slice none 0 0) := cell_blk G2w3.out rfl
  have a4 : w3.cell? ⟨w.heap.size, 4, none⟩ = some (.slice none 0 0) := cell_blk G2w3.out rfl
  have a5 : w3.cell? ⟨w.heap.size, 5, none⟩ = some (.slice none 0 0) := cell_blk G2w3.out rfl
  have e0 : w3.cell? ⟨w.heap.size + 1, 0, none⟩ = some (.slice none 0 0) := cell_blk G3w3.out rfl
  have e1 : w3.cell? ⟨w.heap.size + 1, 1, none⟩ = some (.slice none 0 0) := cell_blk G3w3.out rfl
  have e2 : w3.cell? ⟨w.heap.size + 1, 2, none⟩ = some (.slice (some ⟨g, 0, none⟩) 1 c) := cell_blk G3w3.out rfl
  have e3 : w3.cell? ⟨w.heap.size + 1, 3, none⟩ = some (.int .i64 0) := cell_blk G3w3.out rfl
  have e4 : w3.cell? ⟨w.heap.size + 1, 4, none⟩ = some (.int .i64 0) := cell_blk G3w3.out rfl
  have e5 : w3.cell? ⟨w.heap.size + 1, 5, none⟩ = some (.int .i64 1) := cell_blk G3w3.out rfl
  have e6 : w3.cell? ⟨w.heap.size + 1, 6, none⟩ = some (.int .i64 1) := cell_blk G3w3.out rfl
  have e7 : w3.cell? ⟨w.heap.size + 1, 7, none⟩ = some (.int .i64 1) := cell_blk G3w3.out rfl
  clear hb3
  go_wp2_with fail
  refine (remaining_nil g c w3).mono ?_
  rintro e w4 ⟨b, rfl, hnm, hbl, hb4⟩
  have HB4 := Lib.hid (HB3.out.trans (hb4.mono HB3.out.size))
  have HNM := Lib.hid hnm
  have HBL := Lib.hid (Nat.le_trans HB3.out.size hbl)
  have HBT := Lib.hid hnm.lt
  have G2w4 := Lib.hid ((hb4.block (w.heap.size) (Array.getElem?_eq_some_iff.1 G2w3.out).1).trans G2w3.out)
  have G3w4 := Lib.hid ((hb4.block (w.heap.size + 1) (Array.getElem?_eq_some_iff.1 G3w3.out).1).trans G3w3.out)
  have G4w4 := Lib.hid ((hb4.block (w.heap.size + 1 + 1) (Array.getElem?_eq_some_iff.1 G4w3.out).1).trans G4w3.out)
  clear a0 a1 a2 a3 a4 a5 e0 e1 e2 e3 e4 e5 e6 e7
  have a0 : w4.cell? ⟨w.heap.size, 0, none⟩ = some (.int .i64 0) := cell_blk G2w4.out rfl
  have a1 : w4.cell? ⟨w.heap.size, 1, none⟩ = some (.int .i64 0) := cell_blk G2w4.out rfl
  have a2 : w4.cell? ⟨w.heap.size, 2, none⟩ = some (.int .i64 0) := cell_blk G2w4.out rfl
  have a3 : w4.cell? ⟨w.heap.size, 3, none⟩ = some (.slice none 0 0) := cell_blk G2w4.out rfl
  have a4 : w4.cell? ⟨w.heap.size, 4, none⟩ = some (.slice none 0 0) := cell_blk G2w4.out rfl
  have a5 : w4.cell? ⟨w.heap.size, 5, none⟩ = some (.slice none 0 0) := cell_blk G2w4.out rfl
  have e0 : w4.cell? ⟨w.heap.size + 1, 0, none⟩ = some (.slice none 0 0) := cell_blk G3w4.out rfl
  have e1 : w4.cell? ⟨w.heap.size + 1, 1, none⟩ = some (.slice none 0 0) := cell_blk G3w4.out rfl
  have e2 : w4.cell? ⟨w.heap.size + 1, 2, none⟩ = some (.slice (some ⟨g, 0, none⟩) 1 c) := cell_blk G3w4.out rfl
  have e3 : w4.cell? ⟨w.heap.size + 1, 3, none⟩ = some (.int .i64 0) := cell_blk G3w4.out rfl
  have e4 : w4.cell? ⟨w.heap.size + 1, 4, none⟩ = some (.int .i64 0) := cell_blk G3w4.out rfl
  have e5 : w4.cell? ⟨w.heap.size + 1, 5, none⟩ = some (.int .i64 1) := cell_blk G3w4.out rfl
  have e6 : w4.cell? ⟨w.heap.size + 1, 6, none⟩ = some (.int .i64 1) := cell_blk G3w4.out rfl
  have e7 : w4.cell? ⟨w.heap.size + 1, 7, none⟩ = some (.int .i64 1) := cell_blk G3w4.out rfl
  have HL4 := Lib.hid (show w.heap.size + 1 + 1 < w4.heap.size from (Array.getElem?_eq_some_iff.1 G4w4.out).1)
  have hl4 := HL4.out
  have hl3 : w.heap.size + 1 < w4.heap.size := by omega
  have hl2 : w.heap.size < w4.heap.size := by omega
  clear hb4 hnm hbl
  go_wp2_with fail
  refine wp_loop_rounds 1 ?_
  rw [rounds_succ]
  go_wp2_with fail
  clear a0 a1 a2 a3 a4 a5 e0 e1 e2 e3 e4 e5 e6 e7 hl2 hl3 hl4

  obtain ⟨w5, hw5⟩ : ∃ w5, w5 = w4.alloc (.cells #[.int .i64 1, .int .i64 0, .int .i64 0, .slice none 0 0, .slice none 0 0, .slice none 0 0] 26) := ⟨_, rfl⟩
  have hb5 : Below w4.heap.size w4 w5 := by rw [hw5]; exact (Below.refl _ _).alloc (Nat.le_refl _) _
  have hg5 : w5.heap[w4.heap.size]? = some (.cells #[.int .i64 1, .int .i64 0, .int .i64 0, .slice none 0 0, .slice none 0 0, .slice none 0 0] 26 (0, 0)) := by rw [hw5]; exact heap_alloc_new _ _
  have HB5 := Lib.hid (HB4.out.trans (hb5.mono HB4.out.size))
  have G2w5 := Lib.hid ((hb5.block (w.heap.size) (Array.getElem?_eq_some_iff.1 G2w4.out).1).trans G2w4.out)
  have G3w5 := Lib.hid ((hb5.block (w.heap.size + 1) (Array.getElem?_eq_some_iff.1 G3w4.out).1).trans G3w4.out)
  have G4w5 := Lib.hid ((hb5.block (w.heap.size + 1 + 1) (Array.getElem?_eq_some_iff.1 G4w4.out).1).trans G4w4.out)
  have HG5 := Lib.hid hg5
  have HNM5 := Lib.hid (HNM.out.kept hb5)
  have HW5 := Lib.hid hw5
  have HDF := Lib.hid (fun fv => deletefunc_nil HNM5.out fv)
  clear hb5 hg5 hw5
  rw [← HW5.out]
  refine (HDF.out _).mono ?_
  rintro e w6 ⟨rfl, hb6⟩
  have HB6 := Lib.hid (HB5.out.trans (hb6.mono HB5.out.size))
  have G2w6 := Lib.hid ((hb6.block (w.heap.size) (Array.getElem?_eq_some_iff.1 G2w5.out).1).trans G2w5.out)
  have G3w6 := Lib.hid ((hb6.block (w.heap.size + 1) (Array.getElem?_eq_some_iff.1 G3w5.out).1).trans G3w5.out)
  have G4w6 := Lib.hid ((hb6.block (w.heap.size + 1 + 1) (Array.getElem?_eq_some_iff.1 G4w5.out).1).trans G4w5.out)
  have HG6 := Lib.hid ((hb6.block w4.heap.size (Array.getElem?_eq_some_iff.1 HG5.out).1).trans HG5.out)
  have HNM6 := Lib.hid (HNM5.out.kept hb6)
  have hlen := fun ty => World.ownsMap.len (t := 57) HNM6.out rfl ty
  simp only [show Maps.size (DataW.map ([] : List (Lit × DataW Unit))) = 0 from rfl] at hlen
  clear hb6
  go_wp2_with fail
  clear hlen
  refine (mvalues_any b).mono ?_
  rintro e w7 ⟨rfl, hw7⟩
  have hb7 : Below w6.heap.size w6 w7 := by rw [hw7]; exact (Below.refl _ _).alloc (Nat.le_refl _) _
  have hc7 : w7.cell? ⟨w6.heap.size, 0, none⟩ = some (.map (some b)) := by rw [hw7]; exact cell_blk (heap_alloc_new _ _) rfl
  have hs7 : w7.heap.size = w6.heap.size + 1 := by rw [hw7]; exact Array.size_push _
  have hn7 := HNM6.out.kept hb7
  have HSO := Lib.hid (sorted0E (w := w7) (gf := 52) (lb := #[.pointer (some ⟨w6.heap.size, 0, none⟩)]) (fun _ _ => rfl) (fun m _ => mseq_stops m w6.heap.size b w7 (by omega) hc7 hn7 w7.heap.size (Nat.le_refl _)) (.func (.func 14) #[] #[]))
  have HB7 := Lib.hid (HB6.out.trans (hb7.mono HB6.out.size))
  have G2w7 := Lib.hid ((hb7.block (w.heap.size) (Array.getElem?_eq_some_iff.1 G2w6.out).1).trans G2w6.out)
  have G3w7 := Lib.hid ((hb7.block (w.heap.size + 1) (Array.getElem?_eq_some_iff.1 G3w6.out).1).trans G3w6.out)
  have G4w7 := Lib.hid ((hb7.block (w.heap.size + 1 + 1) (Array.getElem?_eq_some_iff.1 G4w6.out).1).trans G4w6.out)
  have HG7 := Lib.hid ((hb7.block w4.heap.size (Array.getElem?_eq_some_iff.1 HG6.out).1).trans HG6.out)
  clear hb7 hc7 hs7 hn7 hw7
  go_wp2_with fail
  refine HSO.out.mono ?_
  rintro e w8 ⟨⟨qa, qc, rfl⟩, hb8⟩
  have HB8 := Lib.hid (HB7.out.trans (hb8.mono HB7.out.size))
  have G2w8 := Lib.hid ((hb8.block (w.heap.size) (Array.getElem?_eq_some_iff.1 G2w7.out).1).trans G2w7.out)
  have G3w8 := Lib.hid ((hb8.block (w.heap.size + 1) (Array.getElem?_eq_some_iff.1 G3w7.out).1).trans G3w7.out)
  have G4w8 := Lib.hid ((hb8.block (w.heap.size + 1 + 1) (Array.getElem?_eq_some_iff.1 G4w7.out).1).trans G4w7.out)
  have HG8 := Lib.hid ((hb8.block w4.heap.size (Array.getElem?_eq_some_iff.1 HG7.out).1).trans HG7.out)
  clear hb8
  have n3 : w8.cell? ⟨w4.heap.size, 3, none⟩ = some (.slice none 0 0) := cell_blk HG8.out rfl
  have f3 : w8.frozen? ⟨w4.heap.size, 3, none⟩ = false := fro_blk HG8.out 3
  have HX9 := Lib.hid (cells_set HG8.out 3 (.slice qa 0 qc))
  have HB9 := Lib.hid (show Below w.heap.size w (w8.setCell ⟨w4.heap.size, 3, none⟩ (.slice qa 0 qc)) from HB8.out.setCell (by have := HL4.out; show w.heap.size ≤ w4.heap.size; omega) _)
  have hx2 := HX9.out.other (w.heap.size) (by have := HL4.out; omega)
  have hx3 := HX9.out.other (w.heap.size + 1) (by have := HL4.out; omega)
  have hx4 := HX9.out.other (w.heap.size + 1 + 1) (by have := HL4.out; omega)
  have u4 : (w8.setCell ⟨w4.heap.size, 3, none⟩ (.slice qa 0 qc)).cell? ⟨w.heap.size, 4, none⟩ = some (.slice none 0 0) := cell_blk (hx2.trans G2w8.out) rfl
  go_wp2_with fail
  obtain ⟨w9, hw9⟩ : ∃ w9, w9 = w8.setCell ⟨w4.heap.size, 3, none⟩ (.slice qa 0 qc) := ⟨_, rfl⟩
  have HW9 := Lib.hid hw9
  have HBN := Lib.hid (show Below w.heap.size w w9 from by rw [hw9]; exact HB9.out)
  have G2w9 := Lib.hid (show w9.heap[w.heap.size]? = some (.cells #[.int .i64 0, .int .i64 0, .int .i64 0, .slice none 0 0, .slice none 0 0, .slice none 0 0] 26 (0, 0)) from by rw [hw9]; exact hx2.trans G2w8.out)
  have G3w9 := Lib.hid (show w9.heap[w.heap.size + 1]? = some (.cells #[.slice none 0 0, .slice none 0 0, .slice (some ⟨g, 0, none⟩) 1 c, .int .i64 0, .int .i64 0, .int .i64 1, .int .i64 1, .int .i64 1] 47 (0, 0)) from by rw [hw9]; exact hx3.trans G3w8.out)
  have G4w9 := Lib.hid (show w9.heap[w.heap.size + 1 + 1]? = some (.cells #[.int .i64 0, .int .i64 0, .int .i64 0, .slice none 0 0, .slice none 0 0, .slice none 0 0] 26 (0, 0)) from by rw [hw9]; exact hx4.trans G4w8.out)
  have HG9 := Lib.hid (show w9.heap[w4.heap.size]? = some (.cells #[.int .i64 1, .int .i64 0, .int .i64 0, .slice qa 0 qc, .slice none 0 0, .slice none 0 0] 26 (0, 0)) from by rw [hw9]; exact HX9.out.row)
  clear hw9 hx2 hx3 hx4 u4 n3 f3
  rw [← HW9.out]
  refine (clone_nilM w9).mono ?_
  rintro e w9' ⟨rfl, h99⟩
  obtain rfl : w9' = w9 := h99
  have n4 : w9'.cell? ⟨w4.heap.size, 4, none⟩ = some (.slice none 0 0) := cell_blk HG9.out rfl
  have f4 : w9'.frozen? ⟨w4.heap.size, 4, none⟩ = false := fro_blk HG9.out 4
  have HX10 := Lib.hid (cells_set HG9.out 4 (.slice none 0 0))
  have hx3 := HX10.out.other (w.heap.size + 1) (by have := HL4.out; omega)
  have v2 : (w9'.setCell ⟨w4.heap.size, 4, none⟩ (.slice none 0 0)).cell? ⟨w.heap.size + 1, 2, none⟩ = some (.slice (some ⟨g, 0, none⟩) 1 c) := cell_blk (hx3.trans G3w9.out) rfl
  have HC10 := Lib.hid (HBN.out.setCell (p := ⟨w4.heap.size, 4, none⟩) (by have := HL4.out; show w.heap.size ≤ w4.heap.size; omega) (.slice none 0 0))
  clear hx3
  go_wp2_with fail
  obtain ⟨w10, hw10⟩ : ∃ w10, w10 = w9'.setCell ⟨w4.heap.size, 4, none⟩ (.slice none 0 0) := ⟨_, rfl⟩
  have HW10 := Lib.hid hw10
  have HBT0 := Lib.hid (show Below w.heap.size w w10 from by rw [hw10]; exact HC10.out)
  have G2w10 := Lib.hid (show w10.heap[w.heap.size]? = some (.cells #[.int .i64 0, .int .i64 0, .int .i64 0, .slice none 0 0, .slice none 0 0, .slice none 0 0] 26 (0, 0)) from by rw [hw10]; exact (HX10.out.other _ (by have := HL4.out; omega)).trans G2w9.out)
  have G3w10 := Lib.hid (show w10.heap[w.heap.size + 1]? = some (.cells #[.slice none 0 0, .slice none 0 0, .slice (some ⟨g, 0, none⟩) 1 c, .int .i64 0, .int .i64 0, .int .i64 1, .int .i64 1, .int .i64 1] 47 (0, 0)) from by rw [hw10]; exact (HX10.out.other _ (by have := HL4.out; omega)).trans G3w9.out)
  have G4w10 := Lib.hid (show w10.heap[w.heap.size + 1 + 1]? = some (.cells #[.int .i64 0, .int .i64 0, .int .i64 0, .slice none 0 0, .slice none 0 0, .slice none 0 0] 26 (0, 0)) from by rw [hw10]; exact (HX10.out.other _ (by have := HL4.out; omega)).trans G4w9.out)
  have hg10 : w10.heap[w4.heap.size]? = some (.cells #[.int .i64 1, .int .i64 0, .int .i64 0, .slice qa 0 qc, .slice none 0 0, .slice none 0 0] 26 (0, 0)) := by rw [hw10]; exact HX10.out.row
  have HG10 := Lib.hid hg10
  obtain ⟨sb, so, hsb, hsl, _, hsc9⟩ := (HH.out.kept HBT0.out).get (show 0 < 1 by omega)
  obtain ⟨rfl, rfl, _⟩ := hsb
  have d0 : w10.cell? ⟨g, 0, none⟩ = some (.int .i64 1) := by simpa using hsc9 0 _ rfl
  have d1 : w10.cell? ⟨g, 0 + 1, none⟩ = some (.int .i64 5) := by simpa using hsc9 1 _ rfl
  have n5 : w10.cell? ⟨w4.heap.size, 4, none⟩ = some (.slice none 0 0) := cell_blk hg10 rfl
  have hl10 : w4.heap.size < w10.heap.size := (Array.getElem?_eq_some_iff.1 hg10).1
  have HL10 := Lib.hid hl10
  clear hw10 hg10 hsc9 hsl v2 n4 f4
  rw [← HW10.out]
  refine wp_loop_rounds 2 ?_
  rw [rounds_succ]
  go_wp2_with fail
  refine (put_nilM 1 5 _ _).mono ?_
  rintro e w11 ⟨g1, c1, rfl, hge, hv, hb11⟩
  have hb11' : Below w10.heap.size w10 w11 := ((Below.refl _ _).alloc (Nat.le_refl _) _).trans (hb11.mono (by simp))
  have HB11 := Lib.hid (HBT0.out.trans (hb11'.mono HBT0.out.size))
  have G2w11 := Lib.hid ((hb11'.block (w.heap.size) (Array.getElem?_eq_some_iff.1 G2w10.out).1).trans G2w10.out)
  have G3w11 := Lib.hid ((hb11'.block (w.heap.size + 1) (Array.getElem?_eq_some_iff.1 G3w10.out).1).trans G3w10.out)
  have G4w11 := Lib.hid ((hb11'.block (w.heap.size + 1 + 1) (Array.getElem?_eq_some_iff.1 G4w10.out).1).trans G4w10.out)
  have HG11 := Lib.hid ((hb11'.block w4.heap.size (Array.getElem?_eq_some_iff.1 HG10.out).1).trans HG10.out)
  have HGE := Lib.hid (show w4.heap.size < g1 from by have := HL10.out; simp at hge; omega)
  have HV11 := Lib.hid hv
  have n6 : w11.cell? ⟨w4.heap.size, 4, none⟩ = some (.slice none 0 0) := cell_blk HG11.out rfl
  have f6 : w11.frozen? ⟨w4.heap.size, 4, none⟩ = false := fro_blk HG11.out 4
  clear hge hv hb11 hb11' d0 d1 n5 hl10
  go_wp2_with fail
  rw [rounds_succ]
  go_wp2_with fail
  obtain ⟨w12, hw12⟩ : ∃ w12, w12 = w11.setCell ⟨w4.heap.size, 4, none⟩ (.slice (some ⟨g1, 0, none⟩) 1 c1) := ⟨_, rfl⟩
  have HX12 := Lib.hid (cells_set HG11.out 4 (.slice (some ⟨g1, 0, none⟩) 1 c1))
  have HW12 := Lib.hid hw12
  have HB12 := Lib.hid (show Below w.heap.size w w12 from by rw [hw12]; exact HB11.out.setCell (p := ⟨w4.heap.size, 4, none⟩) (by have := HL4.out; show w.heap.size ≤ w4.heap.size; omega) _)
  have G2w12 := Lib.hid (show w12.heap[w.heap.size]? = some (.cells #[.int .i64 0, .int .i64 0, .int .i64 0, .slice none 0 0, .slice none 0 0, .slice none 0 0] 26 (0, 0)) from by rw [hw12]; exact (HX12.out.other _ (by have := HL4.out; omega)).trans G2w11.out)
  have G3w12 := Lib.hid (show w12.heap[w.heap.size + 1]? = some (.cells #[.slice none 0 0, .slice none 0 0, .slice (some ⟨g, 0, none⟩) 1 c, .int .i64 0, .int .i64 0, .int .i64 1, .int .i64 1, .int .i64 1] 47 (0, 0)) from by rw [hw12]; exact (HX12.out.other _ (by have := HL4.out; omega)).trans G3w11.out)
  have G4w12 := Lib.hid (show w12.heap[w.heap.size + 1 + 1]? = some (.cells #[.int .i64 0, .int .i64 0, .int .i64 0, .slice none 0 0, .slice none 0 0, .slice none 0 0] 26 (0, 0)) from by rw [hw12]; exact (HX12.out.other _ (by have := HL4.out; omega)).trans G4w11.out)
  have HG12 := Lib.hid (show w12.heap[w4.heap.size]? = some (.cells #[.int .i64 1, .int .i64 0, .int .i64 0, .slice qa 0 qc, .slice (some ⟨g1, 0, none⟩) 1 c1, .slice none 0 0] 26 (0, 0)) from by rw [hw12]; exact HX12.out.row)
  have HV12 := Lib.hid (show VecAt MarkS w12 (some ⟨g1, 0, none⟩) 1 c1 [(1, 5)] from by rw [hw12]; exact vec_set HV11.out (fun _ h => h) (fun b off s e => by cases e; have := HGE.out; omega))
  have HJ0 := Lib.hid (show JpA w w12 w4.heap.size (.slice qa 0 qc) (.slice (some ⟨g1, 0, none⟩) 1 c1) w12 from ⟨HB12.out, Nat.le_refl _, fun _ _ _ => rfl, _, HG12.out⟩)
  clear hw12 n6 f6
  rw [← HW12.out]
  refine wp_region_fill (by kernel_rfl) (by kernel_rfl) (by kernel_rfl) (JpA w w12 w4.heap.size (.slice qa 0 qc) (.slice (some ⟨g1, 0, none⟩) 1 c1)) (FV2 (fun j_9 => match j_9 with | 0 => some (.pointer (some ⟨w.heap.size, 5, none⟩)) | 1 => some (.slice none 0 0) | 2 => some (.slice none 0 0) | 3 => some (.pointer (some ⟨w.heap.size + 1, 5, none⟩)) | 4 => some (.agg #[.int .i64 1, .int .i64 1, .int .i64 1]) | 5 => none | 6 => some (.pointer (some ⟨w4.heap.size, 5, none⟩)) | 7 => none | _ => none) (SpA w4.heap.size (.slice qa 0 qc) (.slice (some ⟨g1, 0, none⟩) 1 c1))) HJ0.out.drew ?_ ?_
  · intro i9 o ho V w9 K hJ hdep hK
    have HJ := Lib.hid hJ
    simp only [fill, slotOf, List.size_toArray, List.length_cons, List.length_nil, Nat.reduceAdd, List.getElem?_toArray, List.getElem?_cons_zero, List.getElem?_cons_succ, Option.bind_some, Act.put, List.setIfInBounds_toArray, List.set_cons_zero, List.set_cons_succ] at hK ⊢
    have hin : i9 < 8 := (Array.getElem?_eq_some_iff.1 ho).1
    have hcs : i9 = 0 ∨ i9 = 1 ∨ i9 = 2 ∨ i9 = 3 ∨ i9 = 4 ∨ i9 = 5 ∨ i9 = 6 ∨ i9 = 7 := by omega
    clear hin
    rcases hcs with rfl | rfl | rfl | rfl | rfl | rfl | rfl | rfl
    · obtain rfl := Option.some.inj ho.symm
      clear hdep ho hJ
      try simp only [fill, slotOf, List.size_toArray, List.length_cons, List.length_nil, Nat.reduceAdd, List.getElem?_toArray, List.getElem?_cons_zero, List.getElem?_cons_succ, Option.bind_some, Act.put, List.setIfInBounds_toArray, List.set_cons_zero, List.set_cons_succ] at hK ⊢
      go_simp
      exact hK (.pointer (some ⟨w.heap.size, 5, none⟩)) _ HJ.out rfl (fun j y h => h) _ rfl
    · obtain rfl := Option.some.inj ho.symm
      have d0 : V 0 = .pointer (some ⟨w.heap.size, 5, none⟩) := hdep ⟨0, .data⟩ (by simp) rfl
      have a5 : w9.cell? ⟨w.heap.size, 5, none⟩ = some (.slice none 0 0) := cell_blk ((hJ.old (w.heap.size) (Array.getElem?_eq_some_iff.1 G2w12.out).1 (by have := HL4.out; omega)).trans G2w12.out) rfl
      clear hdep ho hJ
      try simp only [fill, slotOf, List.size_toArray, List.length_cons, List.length_nil, Nat.reduceAdd, List.getElem?_toArray, List.getElem?_cons_zero, List.getElem?_cons_succ, Option.bind_some, Act.put, List.setIfInBounds_toArray, List.set_cons_zero, List.set_cons_succ] at hK ⊢
      rw [d0] at hK ⊢
      go_simp
      exact hK (.slice none 0 0) _ HJ.out rfl (fun j y h => h) _ rfl
    · obtain rfl := Option.some.inj ho.symm
      have d1 : V 1 = .slice none 0 0 := hdep ⟨1, .data⟩ (by simp) rfl
      clear hdep ho hJ
      try simp only [fill, slotOf, List.size_toArray, List.length_cons, List.length_nil, Nat.reduceAdd, List.getElem?_toArray, List.getElem?_cons_zero, List.getElem?_cons_succ, Option.bind_some, Act.put, List.setIfInBounds_toArray, List.set_cons_zero, List.set_cons_succ] at hK ⊢
      rw [d1] at hK ⊢
      go_simp
      refine (clone_nilO' w9).mono ?_
      rintro e w8 ⟨rfl, hb8⟩
      exact hK (.slice none 0 0) _ (HJ.out.trans hb8) rfl (FV2.mono (SpA.mono HJ.out.lt hb8)) _ rfl
    · obtain rfl := Option.some.inj ho.symm
      clear hdep ho hJ
      try simp only [fill, slotOf, List.size_toArray, List.length_cons, List.length_nil, Nat.reduceAdd, List.getElem?_toArray, List.getElem?_cons_zero, List.getElem?_cons_succ, Option.bind_some, Act.put, List.setIfInBounds_toArray, List.set_cons_zero, List.set_cons_succ] at hK ⊢
      go_simp
      exact hK (.pointer (some ⟨w.heap.size + 1, 5, none⟩)) _ HJ.out rfl (fun j y h => h) _ rfl
    · obtain rfl := Option.some.inj ho.symm
      have d3 : V 3 = .pointer (some ⟨w.heap.size + 1, 5, none⟩) := hdep ⟨3, .data⟩ (by simp) rfl
      have e5 : w9.cell? ⟨w.heap.size + 1, 5, none⟩ = some (.int .i64 1) := cell_blk ((hJ.old (w.heap.size + 1) (Array.getElem?_eq_some_iff.1 G3w12.out).1 (by have := HL4.out; omega)).trans G3w12.out) rfl
      have e6 : w9.cell? ⟨w.heap.size + 1, 6, none⟩ = some (.int .i64 1) := cell_blk ((hJ.old (w.heap.size + 1) (Array.getElem?_eq_some_iff.1 G3w12.out).1 (by have := HL4.out; omega)).trans G3w12.out) rfl
      have e7 : w9.cell? ⟨w.heap.size + 1, 7, none⟩ = some (.int .i64 1) := cell_blk ((hJ.old (w.heap.size + 1) (Array.getElem?_eq_some_iff.1 G3w12.out).1 (by have := HL4.out; omega)).trans G3w12.out) rfl
      clear hdep ho hJ
      try simp only [fill, slotOf, List.size_toArray, List.length_cons, List.length_nil, Nat.reduceAdd, List.getElem?_toArray, List.getElem?_cons_zero, List.getElem?_cons_succ, Option.bind_some, Act.put, List.setIfInBounds_toArray, List.set_cons_zero, List.set_cons_succ] at hK ⊢
      rw [d3] at hK ⊢
      go_simp
      exact hK (.agg #[.int .i64 1, .int .i64 1, .int .i64 1]) _ HJ.out rfl (fun j y h => h) _ rfl
    · obtain rfl := Option.some.inj ho.symm
      have d2 : V 2 = .slice none 0 0 := hdep ⟨2, .data⟩ (by simp) rfl
      have d4 : V 4 = .agg #[.int .i64 1, .int .i64 1, .int .i64 1] := hdep ⟨4, .data⟩ (by simp) rfl
      clear hdep ho hJ
      try simp only [fill, slotOf, List.size_toArray, List.length_cons, List.length_nil, Nat.reduceAdd, List.getElem?_toArray, List.getElem?_cons_zero, List.getElem?_cons_succ, Option.bind_some, Act.put, List.setIfInBounds_toArray, List.set_cons_zero, List.set_cons_succ] at hK ⊢
      rw [d2, d4] at hK ⊢
      go_simp
      refine (put_nilO 1 1 1 _ w9).mono ?_
      rintro e w8 ⟨g2, c2, rfl, hge8, hv8, hb8⟩
      exact hK (.slice (some ⟨g2, 0, none⟩) 1 c2) _ (HJ.out.trans hb8) (SpA.at5 (E := .slice qa 0 qc) (M := .slice (some ⟨g1, 0, none⟩) 1 c1) (Nat.lt_of_lt_of_le HJ.out.lt hge8) hv8) (FV2.mono (SpA.mono HJ.out.lt hb8)) _ rfl
    · obtain rfl := Option.some.inj ho.symm
      clear hdep ho hJ
      try simp only [fill, slotOf, List.size_toArray, List.length_cons, List.length_nil, Nat.reduceAdd, List.getElem?_toArray, List.getElem?_cons_zero, List.getElem?_cons_succ, Option.bind_some, Act.put, List.setIfInBounds_toArray, List.set_cons_zero, List.set_cons_succ] at hK ⊢
      go_simp
      exact hK (.pointer (some ⟨w4.heap.size, 5, none⟩)) _ HJ.out rfl (fun j y h => h) _ rfl
    · have hoo := Option.some.inj ho.symm
      obtain ⟨g2, c2, eV5, hg2, hv2⟩ : ∃ g2 c2, V 5 = .slice (some ⟨g2, 0, none⟩) 1 c2 ∧ w4.heap.size < g2 ∧ VecAt OwnS w9 (some ⟨g2, 0, none⟩) 1 c2 [(1, 1, 1)] := hdep ⟨5, .data⟩ (by rw [hoo]; simp) rfl
      subst hoo
      have d6 : V 6 = .pointer (some ⟨w4.heap.size, 5, none⟩) := hdep ⟨6, .data⟩ (by simp) rfl
      have HV5 := Lib.hid hv2
      obtain ⟨x9, hx9⟩ := hJ.row
      have HX5 := Lib.hid hx9
      have c5 : w9.cell? ⟨w4.heap.size, 5, none⟩ = some x9 := cell_blk hx9 rfl
      have fz5 : w9.frozen? ⟨w4.heap.size, 5, none⟩ = false := fro_blk hx9 5
      clear hdep ho hJ hv2 hx9
      try simp only [fill, slotOf, List.size_toArray, List.length_cons, List.length_nil, Nat.reduceAdd, List.getElem?_toArray, List.getElem?_cons_zero, List.getElem?_cons_succ, Option.bind_some, Act.put, List.setIfInBounds_toArray, List.set_cons_zero, List.set_cons_succ] at hK ⊢
      rw [d6, eV5] at hK ⊢
      go_simp
      exact hK undef _ (HJ.out.set (by have := HL4.out; omega) _) (SpA.at7 (u := undef) hg2 HX5.out HV5.out) (FV2.mono (SpA.set hg2 HX5.out HV5.out)) _ rfl
  · intro V w9 hJ hall
    have h7 : ∃ g2 c2, w9.heap[w4.heap.size]? = some (.cells #[.int .i64 1, .int .i64 0, .int .i64 0, .slice qa 0 qc, .slice (some ⟨g1, 0, none⟩) 1 c1, .slice (some ⟨g2, 0, none⟩) 1 c2] 26 (0, 0)) ∧ VecAt OwnS w9 (some ⟨g2, 0, none⟩) 1 c2 [(1, 1, 1)] ∧ w4.heap.size < g2 := hall 7 (by decide)
    have HJ9 := Lib.hid hJ
    clear hall hJ
    simp only [fill, slotOf, List.size_toArray, List.length_cons, List.length_nil, Nat.reduceAdd, List.getElem?_toArray, List.getElem?_cons_zero, List.getElem?_cons_succ, Option.bind_some, Act.put, List.setIfInBounds_toArray, List.set_cons_zero, List.set_cons_succ]
    obtain ⟨g2, c2, hrow, hv2, hg2⟩ := h7
    have HG2 := Lib.hid hg2
    have HRW := Lib.hid hrow
    have HV2 := Lib.hid hv2
    have HM9 := Lib.hid (HV12.out.kept2 HJ9.out HGE.out)
    have HG4 := Lib.hid (show w9.heap[w.heap.size + 1 + 1]? = some (.cells #[.int .i64 0, .int .i64 0, .int .i64 0, .slice none 0 0, .slice none 0 0, .slice none 0 0] 26 (0, 0)) from (HJ9.out.old (w.heap.size + 1 + 1) (Array.getElem?_eq_some_iff.1 G4w12.out).1 (by have := HL4.out; omega)).trans G4w12.out)
    have n0 : w9.cell? ⟨w4.heap.size, 0, none⟩ = some (.int .i64 1) := cell_blk hrow rfl
    have n1 : w9.cell? ⟨w4.heap.size, 1, none⟩ = some (.int .i64 0) := cell_blk hrow rfl
    have n2 : w9.cell? ⟨w4.heap.size, 2, none⟩ = some (.int .i64 0) := cell_blk hrow rfl
    have n3 : w9.cell? ⟨w4.heap.size, 3, none⟩ = some (.slice qa 0 qc) := cell_blk hrow rfl
    have n4 : w9.cell? ⟨w4.heap.size, 4, none⟩ = some (.slice (some ⟨g1, 0, none⟩) 1 c1) := cell_blk hrow rfl
    have n5 : w9.cell? ⟨w4.heap.size, 5, none⟩ = some (.slice (some ⟨g2, 0, none⟩) 1 c2) := cell_blk hrow rfl
    have m0 : w9.cell? ⟨w.heap.size + 1 + 1, 0, none⟩ = some (.int .i64 0) := cell_blk HG4.out rfl
    have m1 : w9.cell? ⟨w.heap.size + 1 + 1, 1, none⟩ = some (.int .i64 0) := cell_blk HG4.out rfl
    have m2 : w9.cell? ⟨w.heap.size + 1 + 1, 2, none⟩ = some (.int .i64 0) := cell_blk HG4.out rfl
    have m3 : w9.cell? ⟨w.heap.size + 1 + 1, 3, none⟩ = some (.slice none 0 0) := cell_blk HG4.out rfl
    have m4 : w9.cell? ⟨w.heap.size + 1 + 1, 4, none⟩ = some (.slice none 0 0) := cell_blk HG4.out rfl
    have m5 : w9.cell? ⟨w.heap.size + 1 + 1, 5, none⟩ = some (.slice none 0 0) := cell_blk HG4.out rfl
    have z0 : w9.frozen? ⟨w.heap.size + 1 + 1, 0, none⟩ = false := fro_blk HG4.out 0
    have z1 : w9.frozen? ⟨w.heap.size + 1 + 1, 1, none⟩ = false := fro_blk HG4.out 1
    have z2 : w9.frozen? ⟨w.heap.size + 1 + 1, 2, none⟩ = false := fro_blk HG4.out 2
    have z3 : w9.frozen? ⟨w.heap.size + 1 + 1, 3, none⟩ = false := fro_blk HG4.out 3
    have z4 : w9.frozen? ⟨w.heap.size + 1 + 1, 4, none⟩ = false := fro_blk HG4.out 4
    have z5 : w9.frozen? ⟨w.heap.size + 1 + 1, 5, none⟩ = false := fro_blk HG4.out 5
    clear hrow hv2 hg2
    go_wp2_with fail
    refine bodyPost_ret (ret_cell_tmp rfl _ _ (w.heap.size + 1 + 1) 26 #[.int .i64 1, .int .i64 0, .int .i64 0, .slice qa 0 qc, .slice (some ⟨g1, 0, none⟩) 1 c1, .slice (some ⟨g2, 0, none⟩) 1 c2] _ _ rfl (set6 HG4.out _ _ _ _ _ _) Tryz.underlying26 rfl (by kernel_rfl)) rfl ?_
    exact ⟨qa, qc, g1, c1, g2, c2, rfl, vec6 HM9.out (fun _ _ _ h => h) (by have := HGE.out; have := HL4.out; omega) _ _ _ _ _ _, vec6 HV2.out (fun _ _ _ h => h) (by have := HG2.out; have := HL4.out; omega) _ _ _ _ _ _, below6 HJ9.out.below (by omega) _ _ _ _ _ _⟩


end Go.Proofs.YtmgimmbihcbkbaaGreat
