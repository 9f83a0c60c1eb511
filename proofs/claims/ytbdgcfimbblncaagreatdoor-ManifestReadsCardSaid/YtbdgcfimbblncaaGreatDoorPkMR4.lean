/- Texts put together by packtpl2.py: MfG, MfTw, MfD1, MfD2. -/
import Derived.Test.YtbdgcfimbblncaaGreatDoorPkMR2
import Derived.Test.YtbdgcfimbblncaaGreatDoorPkMR3
import Derived.Maps.OwnSet
import Derived.Lib.MinMax
section PkMR4_0
/- Manifests: layer 13's fixed edit, made on the manifest of nothing, walked. Written by genmfg.py. -/
namespace Go.Proofs.YtbdgcfimbblncaaGreatDoor
open Go.RowKit LabPlain
set_option linter.unusedVariables false

/-- what a store into one cell leaves -/
structure SetAt (w : World) (B : Nat) (cs : Array Value) (t : TypeId) (w' : World) : Prop where
  row : w'.heap[B]? = some (.cells cs t (0, 0))
  other : ∀ k, k ≠ B → w'.heap[k]? = w.heap[k]?
theorem cells_set {w : World} {B : Nat} {cs : Array Value} {t : TypeId} (g : w.heap[B]? = some (.cells cs t (0, 0))) (i : Nat) (u : Value) : SetAt w B (cs.setIfInBounds i u) t (w.setCell ⟨B, i, none⟩ u) :=
  ⟨heap_set g i u, fun k hk => Below.heap_setCell w _ u k hk⟩
theorem vec_set {α : Type} {S : Sty α} {w : World} {a : Option Addr} {n c : Nat} {l : List α} {B i : Nat} {u : Value} (h : VecAt S w a n c l) (hok : ∀ x, S.ok w x → S.ok (w.setCell ⟨B, i, none⟩ u) x) (hne : ∀ b off s, a = some ⟨b, off, s⟩ → b ≠ B) : VecAt S (w.setCell ⟨B, i, none⟩ u) a n c l :=
  ⟨h.len, h.cap, h.capm, h.nl, fun x hx => hok x (h.all x hx), fun hn => by
    obtain ⟨b, off, ha, hlt, hc⟩ := h.cells hn
    have hb : (w.setCell ⟨B, i, none⟩ u).heap[b]? = w.heap[b]? := Below.heap_setCell w _ u b (hne b off none ha)
    refine ⟨b, off, ha, by simpa using hlt, fun i hi j v hv => ?_⟩
    exact (World.cell?_of_block (w := w) (a := ⟨b, _, none⟩) hb).trans (hc i hi j v hv)⟩
theorem clone_nilO' (w : World) : Calls Tryz.prog 73 #[.slice none 0 0] w fun e w' => e = .returned (.slice none 0 0) ∧ Below w.heap.size w w' :=
  (clone_nilO w).mono (fun e w' h => ⟨h.1, by rw [h.2]; exact Below.refl _ _⟩)
/-- a world in which the made manifest's last cell may have been set -/
structure JpA (w0 W : World) (B : Nat) (E M : Value) (w' : World) : Prop where
  below : Below w0.heap.size w0 w'
  size : W.heap.size ≤ w'.heap.size
  old : ∀ k, k < W.heap.size → k ≠ B → w'.heap[k]? = W.heap[k]?
  row : ∃ x, w'.heap[B]? = some (.cells #[.int .i64 1, .int .i64 0, .int .i64 0, E, M, x] 26 (0, 0))
theorem JpA.lt {w0 W w' : World} {B : Nat} {E M : Value} (h : JpA w0 W B E M w') : B < w'.heap.size := by
  obtain ⟨x, hx⟩ := h.row
  exact (Array.getElem?_eq_some_iff.1 hx).1
theorem JpA.trans {w0 W w' w'' : World} {B : Nat} {E M : Value} (h : JpA w0 W B E M w') (hb : Below w'.heap.size w' w'') : JpA w0 W B E M w'' :=
  ⟨h.below.trans (hb.mono h.below.size), Nat.le_trans h.size hb.size, fun k hk hn => (hb.block k (Nat.lt_of_lt_of_le hk h.size)).trans (h.old k hk hn), by
    obtain ⟨x, hx⟩ := h.row
    exact ⟨x, (hb.block B h.lt).trans hx⟩⟩
theorem JpA.drew {w0 W w' : World} {B : Nat} {E M : Value} (h : JpA w0 W B E M w') : JpA w0 W B E M w'.drew := ⟨h.below.drew, h.size, h.old, h.row⟩
theorem JpA.set {w0 W w' : World} {B : Nat} {E M : Value} (h : JpA w0 W B E M w') (hB : w0.heap.size ≤ B) (u : Value) : JpA w0 W B E M (w'.setCell ⟨B, 5, none⟩ u) := by
  obtain ⟨x, hx⟩ := h.row
  exact ⟨h.below.setCell hB u, by simpa using h.size, fun k hk hn => ((cells_set hx 5 u).other k hn).trans (h.old k hk hn), u, (cells_set hx 5 u).row⟩
/-- what the owners' row and the store of it leave -/
@[reducible] def SpA (B : Nat) (E M : Value) (j : Nat) (u : Value) (w : World) : Prop := match j with
  | 5 => ∃ g2 c2, u = .slice (some ⟨g2, 0, none⟩) 1 c2 ∧ B < g2 ∧ VecAt OwnS w (some ⟨g2, 0, none⟩) 1 c2 [(1, 1, 1)]
  | 7 => ∃ g2 c2, w.heap[B]? = some (.cells #[.int .i64 1, .int .i64 0, .int .i64 0, E, M, .slice (some ⟨g2, 0, none⟩) 1 c2] 26 (0, 0)) ∧ VecAt OwnS w (some ⟨g2, 0, none⟩) 1 c2 [(1, 1, 1)] ∧ B < g2
  | _ => True
theorem SpA.at5 {B : Nat} {E M : Value} {w : World} {g2 c2 : Nat} (h : B < g2) (hv : VecAt OwnS w (some ⟨g2, 0, none⟩) 1 c2 [(1, 1, 1)]) : SpA B E M 5 (.slice (some ⟨g2, 0, none⟩) 1 c2) w := ⟨g2, c2, rfl, h, hv⟩
theorem SpA.mono {B : Nat} {E M : Value} {w w' : World} (hB : B < w.heap.size) (h : Below w.heap.size w w') : ∀ j u, SpA B E M j u w → SpA B E M j u w' := by
  intro j u hu
  unfold SpA at hu ⊢
  split at hu
  · obtain ⟨g2, c2, e, h1, h2⟩ := hu
    exact ⟨g2, c2, e, h1, h2.kept h⟩
  · obtain ⟨g2, c2, h1, h2, h3⟩ := hu
    exact ⟨g2, c2, (h.block B hB).trans h1, h2.kept h, h3⟩
  · trivial
theorem SpA.at7 {B : Nat} {E M x : Value} {w : World} {g2 c2 : Nat} {u : Value} (h : B < g2) (hx : w.heap[B]? = some (.cells #[.int .i64 1, .int .i64 0, .int .i64 0, E, M, x] 26 (0, 0))) (hv : VecAt OwnS w (some ⟨g2, 0, none⟩) 1 c2 [(1, 1, 1)]) : SpA B E M 7 u (w.setCell ⟨B, 5, none⟩ (.slice (some ⟨g2, 0, none⟩) 1 c2)) :=
  ⟨g2, c2, (cells_set hx 5 _).row, vec_set hv (fun _ h => h) (fun b off s e => by cases e; omega), h⟩
theorem SpA.set {B : Nat} {E M x : Value} {w : World} {g2 c2 : Nat} (h : B < g2) (hx : w.heap[B]? = some (.cells #[.int .i64 1, .int .i64 0, .int .i64 0, E, M, x] 26 (0, 0))) (hv : VecAt OwnS w (some ⟨g2, 0, none⟩) 1 c2 [(1, 1, 1)]) : ∀ j u, SpA B E M j u w → SpA B E M j u (w.setCell ⟨B, 5, none⟩ (.slice (some ⟨g2, 0, none⟩) 1 c2)) := by
  intro j u hu
  by_cases h7 : j = 7
  · subst h7
    exact SpA.at7 h hx hv
  · unfold SpA at hu ⊢
    split at hu
    · obtain ⟨g3, c3, e, h1, h2⟩ := hu
      exact ⟨g3, c3, e, h1, vec_set h2 (fun _ h => h) (fun b off s e => by cases e; omega)⟩
    · exact absurd rfl h7
    · trivial
theorem VecAt.kept2 {w0 W w' : World} {B g n c : Nat} {E M : Value} {l : List (Int × Int)} (h : VecAt MarkS W (some ⟨g, 0, none⟩) n c l) (hj : JpA w0 W B E M w') (hg : B < g) : VecAt MarkS w' (some ⟨g, 0, none⟩) n c l :=
  ⟨h.len, h.cap, h.capm, h.nl, fun _ _ => trivial, fun hn => by
    obtain ⟨b, off, ha, hlt, hc⟩ := h.cells hn
    have hb : w'.heap[b]? = W.heap[b]? := hj.old b hlt (by cases ha; omega)
    refine ⟨b, off, ha, Nat.lt_of_lt_of_le hlt hj.size, fun i hi j v hv => ?_⟩
    exact (World.cell?_of_block (w := W) (a := ⟨b, _, none⟩) hb).trans (hc i hi j v hv)⟩
/-- a manifest's six cells, set -/
theorem set6 {v : World} {R : Nat} {c0 c1 c2 c3 c4 c5 : Value} {t : TypeId} (g : v.heap[R]? = some (.cells #[c0, c1, c2, c3, c4, c5] t (0, 0))) (x0 x1 x2 x3 x4 x5 : Value) : ((((((v.setCell ⟨R, 0, none⟩ x0).setCell ⟨R, 1, none⟩ x1).setCell ⟨R, 2, none⟩ x2).setCell ⟨R, 3, none⟩ x3).setCell ⟨R, 4, none⟩ x4).setCell ⟨R, 5, none⟩ x5).heap[R]? = some (.cells #[x0, x1, x2, x3, x4, x5] t (0, 0)) := by
  have h := heap_set (heap_set (heap_set (heap_set (heap_set (heap_set g 0 x0) 1 x1) 2 x2) 3 x3) 4 x4) 5 x5
  simp only [List.setIfInBounds_toArray, List.set_cons_zero, List.set_cons_succ] at h
  exact h
theorem below6 {B R : Nat} {w v : World} (h : Below B w v) (hR : B ≤ R) (x0 x1 x2 x3 x4 x5 : Value) : Below B w ((((((v.setCell ⟨R, 0, none⟩ x0).setCell ⟨R, 1, none⟩ x1).setCell ⟨R, 2, none⟩ x2).setCell ⟨R, 3, none⟩ x3).setCell ⟨R, 4, none⟩ x4).setCell ⟨R, 5, none⟩ x5) :=
  (((((h.setCell (p := ⟨R, 0, none⟩) hR x0).setCell (p := ⟨R, 1, none⟩) hR x1).setCell (p := ⟨R, 2, none⟩) hR x2).setCell (p := ⟨R, 3, none⟩) hR x3).setCell (p := ⟨R, 4, none⟩) hR x4).setCell (p := ⟨R, 5, none⟩) hR x5
theorem vec6 {α : Type} {S : Sty α} {v : World} {R g : Nat} {n c : Nat} {l : List α} (h : VecAt S v (some ⟨g, 0, none⟩) n c l) (hok : ∀ (w w' : World) x, S.ok w x → S.ok w' x) (hne : g ≠ R) (x0 x1 x2 x3 x4 x5 : Value) : VecAt S ((((((v.setCell ⟨R, 0, none⟩ x0).setCell ⟨R, 1, none⟩ x1).setCell ⟨R, 2, none⟩ x2).setCell ⟨R, 3, none⟩ x3).setCell ⟨R, 4, none⟩ x4).setCell ⟨R, 5, none⟩ x5) (some ⟨g, 0, none⟩) n c l := by
  have hn : ∀ b off s, (some (⟨g, 0, none⟩ : Addr)) = some ⟨b, off, s⟩ → b ≠ R := fun b off s e => by cases e; exact hne
  exact vec_set (vec_set (vec_set (vec_set (vec_set (vec_set h (hok _ _) hn) (hok _ _) hn) (hok _ _) hn) (hok _ _) hn) (hok _ _) hn) (hok _ _) hn

set_option maxRecDepth 100000 in
set_option maxHeartbeats 8000000 in
theorem apply_fix {w : World} {g c : Nat} (h : VecAt MarkS w (some ⟨g, 0, none⟩) 1 c [(1, 5)]) :
    Calls Tryz.prog 18 #[.agg #[.int .i64 0, .int .i64 0, .int .i64 0, .slice none 0 0, .slice none 0 0, .slice none 0 0], .agg #[.slice none 0 0, .slice none 0 0, .slice (some ⟨g, 0, none⟩) 1 c, .int .i64 0, .int .i64 0, .int .i64 1, .int .i64 1, .int .i64 1]] w fun e w' => ∃ ea ec g1 c1 g2 c2, e = .returned (.tuple #[.agg #[.int .i64 1, .int .i64 0, .int .i64 0, .slice ea 0 ec, .slice (some ⟨g1, 0, none⟩) 1 c1, .slice (some ⟨g2, 0, none⟩) 1 c2], .int .i64 0]) ∧ VecAt MarkS w' (some ⟨g1, 0, none⟩) 1 c1 [(1, 5)] ∧ VecAt OwnS w' (some ⟨g2, 0, none⟩) 1 c2 [(1, 1, 1)] ∧ Below w.heap.size w w' := by
  have hcap := h.cap
  have hcm := h.capm
  obtain ⟨wa, hwa⟩ : ∃ wa, wa = w.alloc (.cells #[.int .i64 0, .int .i64 0, .int .i64 0, .slice none 0 0, .slice none 0 0, .slice none 0 0] 26) := ⟨_, rfl⟩
  obtain ⟨wb, hwb⟩ : ∃ wb, wb = wa.alloc (.cells #[.slice none 0 0, .slice none 0 0, .slice (some ⟨g, 0, none⟩) 1 c, .int .i64 0, .int .i64 0, .int .i64 1, .int .i64 1, .int .i64 1] 48) := ⟨_, rfl⟩
  obtain ⟨wc, hwc⟩ : ∃ wc, wc = wb.alloc (.cells #[.int .i64 0, .int .i64 0, .int .i64 0, .slice none 0 0, .slice none 0 0, .slice none 0 0] 26) := ⟨_, rfl⟩
  have sa : wa.heap.size = w.heap.size + 1 := by rw [hwa]; exact Array.size_push _
  have sb : wb.heap.size = w.heap.size + 2 := by rw [hwb]; show (wa.heap.push _).size = _; rw [Array.size_push, sa]
  have ba : Below w.heap.size w wa := by rw [hwa]; exact (Below.refl _ _).alloc (Nat.le_refl _) _
  have bb : Below w.heap.size w wb := by rw [hwb]; exact ba.alloc ba.size _
  have bc : Below w.heap.size w wc := by rw [hwc]; exact bb.alloc bb.size _
  have gc : wc.heap[w.heap.size + 1 + 1]? = some (.cells #[.int .i64 0, .int .i64 0, .int .i64 0, .slice none 0 0, .slice none 0 0, .slice none 0 0] 26 (0, 0)) := by rw [hwc, show w.heap.size + 1 + 1 = wb.heap.size from by omega]; exact heap_alloc_new _ _
  have gb : wc.heap[w.heap.size + 1]? = some (.cells #[.slice none 0 0, .slice none 0 0, .slice (some ⟨g, 0, none⟩) 1 c, .int .i64 0, .int .i64 0, .int .i64 1, .int .i64 1, .int .i64 1] 48 (0, 0)) := by rw [hwc, hao9 _ _ _ (by omega), hwb, ← sa]; exact heap_alloc_new _ _
  have ga : wc.heap[w.heap.size]? = some (.cells #[.int .i64 0, .int .i64 0, .int .i64 0, .slice none 0 0, .slice none 0 0, .slice none 0 0] 26 (0, 0)) := by rw [hwc, hao9 _ _ _ (by omega), hwb, hao9 _ _ _ (by omega), hwa]; exact heap_alloc_new _ _
  have HH := Lib.hid h
  have HBc := Lib.hid bc
  have G2wc := Lib.hid ga
  have G3wc := Lib.hid gb
  have G4wc := Lib.hid gc
  have HWC := Lib.hid (show ((w.alloc (.cells #[.int .i64 0, .int .i64 0, .int .i64 0, .slice none 0 0, .slice none 0 0, .slice none 0 0] 26)).alloc (.cells #[.slice none 0 0, .slice none 0 0, .slice (some ⟨g, 0, none⟩) 1 c, .int .i64 0, .int .i64 0, .int .i64 1, .int .i64 1, .int .i64 1] 48)).alloc (.cells #[.int .i64 0, .int .i64 0, .int .i64 0, .slice none 0 0, .slice none 0 0, .slice none 0 0] 26) = wc from by rw [hwc, hwb, hwa])
  have a0 : wc.cell? ⟨w.heap.size, 0, none⟩ = some (.int .i64 0) := cell_blk ga rfl
  have a1 : wc.cell? ⟨w.heap.size, 1, none⟩ = some (.int .i64 0) := cell_blk ga rfl
  have a2 : wc.cell? ⟨w.heap.size, 2, none⟩ = some (.int .i64 0) := cell_blk ga rfl
  have a3 : wc.cell? ⟨w.heap.size, 3, none⟩ = some (.slice none 0 0) := cell_blk ga rfl
  have a4 : wc.cell? ⟨w.heap.size, 4, none⟩ = some (.slice none 0 0) := cell_blk ga rfl
  have a5 : wc.cell? ⟨w.heap.size, 5, none⟩ = some (.slice none 0 0) := cell_blk ga rfl
  clear hwb hwa hwc sa sb ba bb bc gb ga gc h
  go_enter Tryz.func18, Tryz.ntmps18
  go_wp2_with fail
  rw [HWC.out]
  go_wp2_with fail
  refine (right_zero wc).mono ?_
  rintro e w1 ⟨rfl, hb1⟩
  have HB1 := Lib.hid (HBc.out.trans (hb1.mono HBc.out.size))
  have G2w1 := Lib.hid ((hb1.block (w.heap.size) (Array.getElem?_eq_some_iff.1 G2wc.out).1).trans G2wc.out)
  have G3w1 := Lib.hid ((hb1.block (w.heap.size + 1) (Array.getElem?_eq_some_iff.1 G3wc.out).1).trans G3wc.out)
  have G4w1 := Lib.hid ((hb1.block (w.heap.size + 1 + 1) (Array.getElem?_eq_some_iff.1 G4wc.out).1).trans G4wc.out)
  clear a0 a1 a2 a3 a4 a5
  have e0 : w1.cell? ⟨w.heap.size + 1, 0, none⟩ = some (.slice none 0 0) := cell_blk G3w1.out rfl
  have e1 : w1.cell? ⟨w.heap.size + 1, 1, none⟩ = some (.slice none 0 0) := cell_blk G3w1.out rfl
  have e2 : w1.cell? ⟨w.heap.size + 1, 2, none⟩ = some (.slice (some ⟨g, 0, none⟩) 1 c) := cell_blk G3w1.out rfl
  have e3 : w1.cell? ⟨w.heap.size + 1, 3, none⟩ = some (.int .i64 0) := cell_blk G3w1.out rfl
  have e4 : w1.cell? ⟨w.heap.size + 1, 4, none⟩ = some (.int .i64 0) := cell_blk G3w1.out rfl
  have e5 : w1.cell? ⟨w.heap.size + 1, 5, none⟩ = some (.int .i64 1) := cell_blk G3w1.out rfl
  have e6 : w1.cell? ⟨w.heap.size + 1, 6, none⟩ = some (.int .i64 1) := cell_blk G3w1.out rfl
  have e7 : w1.cell? ⟨w.heap.size + 1, 7, none⟩ = some (.int .i64 1) := cell_blk G3w1.out rfl
  have HRE := Lib.hid (rightEdit_yes (HH.out.kept HB1.out))
  clear hb1
  go_wp2_with fail
  refine HRE.out.mono ?_
  rintro e w2 ⟨rfl, hb2⟩
  have HB2 := Lib.hid (HB1.out.trans (hb2.mono HB1.out.size))
  have G2w2 := Lib.hid ((hb2.block (w.heap.size) (Array.getElem?_eq_some_iff.1 G2w1.out).1).trans G2w1.out)
  have G3w2 := Lib.hid ((hb2.block (w.heap.size + 1) (Array.getElem?_eq_some_iff.1 G3w1.out).1).trans G3w1.out)
  have G4w2 := Lib.hid ((hb2.block (w.heap.size + 1 + 1) (Array.getElem?_eq_some_iff.1 G4w1.out).1).trans G4w1.out)
  clear e0 e1 e2 e3 e4 e5 e6 e7
  have a0 : w2.cell? ⟨w.heap.size, 0, none⟩ = some (.int .i64 0) := cell_blk G2w2.out rfl
  have a1 : w2.cell? ⟨w.heap.size, 1, none⟩ = some (.int .i64 0) := cell_blk G2w2.out rfl
  have a2 : w2.cell? ⟨w.heap.size, 2, none⟩ = some (.int .i64 0) := cell_blk G2w2.out rfl
  have a3 : w2.cell? ⟨w.heap.size, 3, none⟩ = some (.slice none 0 0) := cell_blk G2w2.out rfl
  have a4 : w2.cell? ⟨w.heap.size, 4, none⟩ = some (.slice none 0 0) := cell_blk G2w2.out rfl
  have a5 : w2.cell? ⟨w.heap.size, 5, none⟩ = some (.slice none 0 0) := cell_blk G2w2.out rfl
  have e0 : w2.cell? ⟨w.heap.size + 1, 0, none⟩ = some (.slice none 0 0) := cell_blk G3w2.out rfl
  have e1 : w2.cell? ⟨w.heap.size + 1, 1, none⟩ = some (.slice none 0 0) := cell_blk G3w2.out rfl
  have e2 : w2.cell? ⟨w.heap.size + 1, 2, none⟩ = some (.slice (some ⟨g, 0, none⟩) 1 c) := cell_blk G3w2.out rfl
  have e3 : w2.cell? ⟨w.heap.size + 1, 3, none⟩ = some (.int .i64 0) := cell_blk G3w2.out rfl
  have e4 : w2.cell? ⟨w.heap.size + 1, 4, none⟩ = some (.int .i64 0) := cell_blk G3w2.out rfl
  have e5 : w2.cell? ⟨w.heap.size + 1, 5, none⟩ = some (.int .i64 1) := cell_blk G3w2.out rfl
  have e6 : w2.cell? ⟨w.heap.size + 1, 6, none⟩ = some (.int .i64 1) := cell_blk G3w2.out rfl
  have e7 : w2.cell? ⟨w.heap.size + 1, 7, none⟩ = some (.int .i64 1) := cell_blk G3w2.out rfl
  have HOD := Lib.hid (outdated_no (HH.out.kept HB2.out))
  clear hb2
  go_wp2_with fail
  refine HOD.out.mono ?_
  rintro e w3 ⟨rfl, hb3⟩
  have HB3 := Lib.hid (HB2.out.trans (hb3.mono HB2.out.size))
  have G2w3 := Lib.hid ((hb3.block (w.heap.size) (Array.getElem?_eq_some_iff.1 G2w2.out).1).trans G2w2.out)
  have G3w3 := Lib.hid ((hb3.block (w.heap.size + 1) (Array.getElem?_eq_some_iff.1 G3w2.out).1).trans G3w2.out)
  have G4w3 := Lib.hid ((hb3.block (w.heap.size + 1 + 1) (Array.getElem?_eq_some_iff.1 G4w2.out).1).trans G4w2.out)
  clear a0 a1 a2 a3 a4 a5 e0 e1 e2 e3 e4 e5 e6 e7
  have a0 : w3.cell? ⟨w.heap.size, 0, none⟩ = some (.int .i64 0) := cell_blk G2w3.out rfl
  have a1 : w3.cell? ⟨w.heap.size, 1, none⟩ = some (.int .i64 0) := cell_blk G2w3.out rfl
  have a2 : w3.cell? ⟨w.heap.size, 2, none⟩ = some (.int .i64 0) := cell_blk G2w3.out rfl
  have a3 : w3.cell? ⟨w.heap.size, 3, none⟩ = some (.slice none 0 0) := cell_blk G2w3.out rfl
  have a4 : w3.cell? ⟨w.heap.size, 4, none⟩ = some (.slice none 0 0) := cell_blk G2w3.out rfl
  have a5 : w3.cell? ⟨w.heap.size, 5, none⟩ = some (.slice none 0 0) := cell_blk G2w3.out rfl
  have e0 : w3.cell? ⟨w.heap.size + 1, 0, none⟩ = some (.slice none 0 0) := cell_blk G3w3.out rfl
  have e1 : w3.cell? ⟨w.heap.size + 1, 1, none⟩ = some (.slice none 0 0) := cell_blk G3w3.out rfl
  have e2 : w3.cell? ⟨w.heap.size + 1, 2, none⟩ = some (.slice (some ⟨g, 0, none⟩) 1 c) := cell_blk G3w3.out rfl
  have e3 : w3.cell? ⟨w.heap.size + 1, 3, none⟩ = some (.int .i64 0) := cell_blk G3w3.out rfl
  have e4 : w3.cell? ⟨w.heap.size + 1, 4, none⟩ = some (.int .i64 0) := cell_blk G3w3.out rfl
  have e5 : w3.cell? ⟨w.heap.size + 1, 5, none⟩ = some (.int .i64 1) := cell_blk G3w3.out rfl
  have e6 : w3.cell? ⟨w.heap.size + 1, 6, none⟩ = some (.int .i64 1) := cell_blk G3w3.out rfl
  have e7 : w3.cell? ⟨w.heap.size + 1, 7, none⟩ = some (.int .i64 1) := cell_blk G3w3.out rfl
  clear hb3
  go_wp2_with fail
  refine (remaining_nil g c w3).mono ?_
  rintro e w4 ⟨b, rfl, hnm, hbl, hb4⟩
  have HB4 := Lib.hid (HB3.out.trans (hb4.mono HB3.out.size))
  have HNM := Lib.hid hnm
  have HBL := Lib.hid (Nat.le_trans HB3.out.size hbl)
  have HBT := Lib.hid hnm.lt
  have G2w4 := Lib.hid ((hb4.block (w.heap.size) (Array.getElem?_eq_some_iff.1 G2w3.out).1).trans G2w3.out)
  have G3w4 := Lib.hid ((hb4.block (w.heap.size + 1) (Array.getElem?_eq_some_iff.1 G3w3.out).1).trans G3w3.out)
  have G4w4 := Lib.hid ((hb4.block (w.heap.size + 1 + 1) (Array.getElem?_eq_some_iff.1 G4w3.out).1).trans G4w3.out)
  clear a0 a1 a2 a3 a4 a5 e0 e1 e2 e3 e4 e5 e6 e7
  have a0 : w4.cell? ⟨w.heap.size, 0, none⟩ = some (.int .i64 0) := cell_blk G2w4.out rfl
  have a1 : w4.cell? ⟨w.heap.size, 1, none⟩ = some (.int .i64 0) := cell_blk G2w4.out rfl
  have a2 : w4.cell? ⟨w.heap.size, 2, none⟩ = some (.int .i64 0) := cell_blk G2w4.out rfl
  have a3 : w4.cell? ⟨w.heap.size, 3, none⟩ = some (.slice none 0 0) := cell_blk G2w4.out rfl
  have a4 : w4.cell? ⟨w.heap.size, 4, none⟩ = some (.slice none 0 0) := cell_blk G2w4.out rfl
  have a5 : w4.cell? ⟨w.heap.size, 5, none⟩ = some (.slice none 0 0) := cell_blk G2w4.out rfl
  have e0 : w4.cell? ⟨w.heap.size + 1, 0, none⟩ = some (.slice none 0 0) := cell_blk G3w4.out rfl
  have e1 : w4.cell? ⟨w.heap.size + 1, 1, none⟩ = some (.slice none 0 0) := cell_blk G3w4.out rfl
  have e2 : w4.cell? ⟨w.heap.size + 1, 2, none⟩ = some (.slice (some ⟨g, 0, none⟩) 1 c) := cell_blk G3w4.out rfl
  have e3 : w4.cell? ⟨w.heap.size + 1, 3, none⟩ = some (.int .i64 0) := cell_blk G3w4.out rfl
  have e4 : w4.cell? ⟨w.heap.size + 1, 4, none⟩ = some (.int .i64 0) := cell_blk G3w4.out rfl
  have e5 : w4.cell? ⟨w.heap.size + 1, 5, none⟩ = some (.int .i64 1) := cell_blk G3w4.out rfl
  have e6 : w4.cell? ⟨w.heap.size + 1, 6, none⟩ = some (.int .i64 1) := cell_blk G3w4.out rfl
  have e7 : w4.cell? ⟨w.heap.size + 1, 7, none⟩ = some (.int .i64 1) := cell_blk G3w4.out rfl
  have HL4 := Lib.hid (show w.heap.size + 1 + 1 < w4.heap.size from (Array.getElem?_eq_some_iff.1 G4w4.out).1)
  have hl4 := HL4.out
  have hl3 : w.heap.size + 1 < w4.heap.size := by omega
  have hl2 : w.heap.size < w4.heap.size := by omega
  clear hb4 hnm hbl
  go_wp2_with fail
  refine wp_loop_rounds 1 ?_
  rw [rounds_succ]
  go_wp2_with fail
  clear a0 a1 a2 a3 a4 a5 e0 e1 e2 e3 e4 e5 e6 e7 hl2 hl3 hl4

  obtain ⟨w5, hw5⟩ : ∃ w5, w5 = w4.alloc (.cells #[.int .i64 1, .int .i64 0, .int .i64 0, .slice none 0 0, .slice none 0 0, .slice none 0 0] 26) := ⟨_, rfl⟩
  have hb5 : Below w4.heap.size w4 w5 := by rw [hw5]; exact (Below.refl _ _).alloc (Nat.le_refl _) _
  have hg5 : w5.heap[w4.heap.size]? = some (.cells #[.int .i64 1, .int .i64 0, .int .i64 0, .slice none 0 0, .slice none 0 0, .slice none 0 0] 26 (0, 0)) := by rw [hw5]; exact heap_alloc_new _ _
  have HB5 := Lib.hid (HB4.out.trans (hb5.mono HB4.out.size))
  have G2w5 := Lib.hid ((hb5.block (w.heap.size) (Array.getElem?_eq_some_iff.1 G2w4.out).1).trans G2w4.out)
  have G3w5 := Lib.hid ((hb5.block (w.heap.size + 1) (Array.getElem?_eq_some_iff.1 G3w4.out).1).trans G3w4.out)
  have G4w5 := Lib.hid ((hb5.block (w.heap.size + 1 + 1) (Array.getElem?_eq_some_iff.1 G4w4.out).1).trans G4w4.out)
  have HG5 := Lib.hid hg5
  have HNM5 := Lib.hid (HNM.out.kept hb5)
  have HW5 := Lib.hid hw5
  have HDF := Lib.hid (fun fv => deletefunc_nil HNM5.out fv)
  clear hb5 hg5 hw5
  rw [← HW5.out]
  refine (HDF.out _).mono ?_
  rintro e w6 ⟨rfl, hb6⟩
  have HB6 := Lib.hid (HB5.out.trans (hb6.mono HB5.out.size))
  have G2w6 := Lib.hid ((hb6.block (w.heap.size) (Array.getElem?_eq_some_iff.1 G2w5.out).1).trans G2w5.out)
  have G3w6 := Lib.hid ((hb6.block (w.heap.size + 1) (Array.getElem?_eq_some_iff.1 G3w5.out).1).trans G3w5.out)
  have G4w6 := Lib.hid ((hb6.block (w.heap.size + 1 + 1) (Array.getElem?_eq_some_iff.1 G4w5.out).1).trans G4w5.out)
  have HG6 := Lib.hid ((hb6.block w4.heap.size (Array.getElem?_eq_some_iff.1 HG5.out).1).trans HG5.out)
  have HNM6 := Lib.hid (HNM5.out.kept hb6)
  have hlen := fun ty => World.ownsMap.len (t := 92) HNM6.out rfl ty
  simp only [show Maps.size (DataW.map ([] : List (Lit × DataW Unit))) = 0 from rfl] at hlen
  clear hb6
  go_wp2_with fail
  clear hlen
  refine (mvalues_any b).mono ?_
  rintro e w7 ⟨rfl, hw7⟩
  have hb7 : Below w6.heap.size w6 w7 := by rw [hw7]; exact (Below.refl _ _).alloc (Nat.le_refl _) _
  have hc7 : w7.cell? ⟨w6.heap.size, 0, none⟩ = some (.map (some b)) := by rw [hw7]; exact cell_blk (heap_alloc_new _ _) rfl
  have hs7 : w7.heap.size = w6.heap.size + 1 := by rw [hw7]; exact Array.size_push _
  have hn7 := HNM6.out.kept hb7
  have HSO := Lib.hid (sorted0E (w := w7) (gf := 103) (lb := #[.pointer (some ⟨w6.heap.size, 0, none⟩)]) (fun _ _ => rfl) (fun m _ => mseq_stops m w6.heap.size b w7 (by omega) hc7 hn7 w7.heap.size (Nat.le_refl _)) (.func (.func 38) #[] #[]))
  have HB7 := Lib.hid (HB6.out.trans (hb7.mono HB6.out.size))
  have G2w7 := Lib.hid ((hb7.block (w.heap.size) (Array.getElem?_eq_some_iff.1 G2w6.out).1).trans G2w6.out)
  have G3w7 := Lib.hid ((hb7.block (w.heap.size + 1) (Array.getElem?_eq_some_iff.1 G3w6.out).1).trans G3w6.out)
  have G4w7 := Lib.hid ((hb7.block (w.heap.size + 1 + 1) (Array.getElem?_eq_some_iff.1 G4w6.out).1).trans G4w6.out)
  have HG7 := Lib.hid ((hb7.block w4.heap.size (Array.getElem?_eq_some_iff.1 HG6.out).1).trans HG6.out)
  clear hb7 hc7 hs7 hn7 hw7
  go_wp2_with fail
  refine HSO.out.mono ?_
  rintro e w8 ⟨⟨qa, qc, rfl⟩, hb8⟩
  have HB8 := Lib.hid (HB7.out.trans (hb8.mono HB7.out.size))
  have G2w8 := Lib.hid ((hb8.block (w.heap.size) (Array.getElem?_eq_some_iff.1 G2w7.out).1).trans G2w7.out)
  have G3w8 := Lib.hid ((hb8.block (w.heap.size + 1) (Array.getElem?_eq_some_iff.1 G3w7.out).1).trans G3w7.out)
  have G4w8 := Lib.hid ((hb8.block (w.heap.size + 1 + 1) (Array.getElem?_eq_some_iff.1 G4w7.out).1).trans G4w7.out)
  have HG8 := Lib.hid ((hb8.block w4.heap.size (Array.getElem?_eq_some_iff.1 HG7.out).1).trans HG7.out)
  clear hb8
  have n3 : w8.cell? ⟨w4.heap.size, 3, none⟩ = some (.slice none 0 0) := cell_blk HG8.out rfl
  have f3 : w8.frozen? ⟨w4.heap.size, 3, none⟩ = false := fro_blk HG8.out 3
  have HX9 := Lib.hid (cells_set HG8.out 3 (.slice qa 0 qc))
  have HB9 := Lib.hid (show Below w.heap.size w (w8.setCell ⟨w4.heap.size, 3, none⟩ (.slice qa 0 qc)) from HB8.out.setCell (by have := HL4.out; show w.heap.size ≤ w4.heap.size; omega) _)
  have hx2 := HX9.out.other (w.heap.size) (by have := HL4.out; omega)
  have hx3 := HX9.out.other (w.heap.size + 1) (by have := HL4.out; omega)
  have hx4 := HX9.out.other (w.heap.size + 1 + 1) (by have := HL4.out; omega)
  have u4 : (w8.setCell ⟨w4.heap.size, 3, none⟩ (.slice qa 0 qc)).cell? ⟨w.heap.size, 4, none⟩ = some (.slice none 0 0) := cell_blk (hx2.trans G2w8.out) rfl
  go_wp2_with fail
  obtain ⟨w9, hw9⟩ : ∃ w9, w9 = w8.setCell ⟨w4.heap.size, 3, none⟩ (.slice qa 0 qc) := ⟨_, rfl⟩
  have HW9 := Lib.hid hw9
  have HBN := Lib.hid (show Below w.heap.size w w9 from by rw [hw9]; exact HB9.out)
  have G2w9 := Lib.hid (show w9.heap[w.heap.size]? = some (.cells #[.int .i64 0, .int .i64 0, .int .i64 0, .slice none 0 0, .slice none 0 0, .slice none 0 0] 26 (0, 0)) from by rw [hw9]; exact hx2.trans G2w8.out)
  have G3w9 := Lib.hid (show w9.heap[w.heap.size + 1]? = some (.cells #[.slice none 0 0, .slice none 0 0, .slice (some ⟨g, 0, none⟩) 1 c, .int .i64 0, .int .i64 0, .int .i64 1, .int .i64 1, .int .i64 1] 48 (0, 0)) from by rw [hw9]; exact hx3.trans G3w8.out)
  have G4w9 := Lib.hid (show w9.heap[w.heap.size + 1 + 1]? = some (.cells #[.int .i64 0, .int .i64 0, .int .i64 0, .slice none 0 0, .slice none 0 0, .slice none 0 0] 26 (0, 0)) from by rw [hw9]; exact hx4.trans G4w8.out)
  have HG9 := Lib.hid (show w9.heap[w4.heap.size]? = some (.cells #[.int .i64 1, .int .i64 0, .int .i64 0, .slice qa 0 qc, .slice none 0 0, .slice none 0 0] 26 (0, 0)) from by rw [hw9]; exact HX9.out.row)
  clear hw9 hx2 hx3 hx4 u4 n3 f3
  rw [← HW9.out]
  refine (clone_nilM w9).mono ?_
  rintro e w9' ⟨rfl, h99⟩
  obtain rfl : w9' = w9 := h99
  have n4 : w9'.cell? ⟨w4.heap.size, 4, none⟩ = some (.slice none 0 0) := cell_blk HG9.out rfl
  have f4 : w9'.frozen? ⟨w4.heap.size, 4, none⟩ = false := fro_blk HG9.out 4
  have HX10 := Lib.hid (cells_set HG9.out 4 (.slice none 0 0))
  have hx3 := HX10.out.other (w.heap.size + 1) (by have := HL4.out; omega)
  have v2 : (w9'.setCell ⟨w4.heap.size, 4, none⟩ (.slice none 0 0)).cell? ⟨w.heap.size + 1, 2, none⟩ = some (.slice (some ⟨g, 0, none⟩) 1 c) := cell_blk (hx3.trans G3w9.out) rfl
  have HC10 := Lib.hid (HBN.out.setCell (p := ⟨w4.heap.size, 4, none⟩) (by have := HL4.out; show w.heap.size ≤ w4.heap.size; omega) (.slice none 0 0))
  clear hx3
  go_wp2_with fail
  obtain ⟨w10, hw10⟩ : ∃ w10, w10 = w9'.setCell ⟨w4.heap.size, 4, none⟩ (.slice none 0 0) := ⟨_, rfl⟩
  have HW10 := Lib.hid hw10
  have HBT0 := Lib.hid (show Below w.heap.size w w10 from by rw [hw10]; exact HC10.out)
  have G2w10 := Lib.hid (show w10.heap[w.heap.size]? = some (.cells #[.int .i64 0, .int .i64 0, .int .i64 0, .slice none 0 0, .slice none 0 0, .slice none 0 0] 26 (0, 0)) from by rw [hw10]; exact (HX10.out.other _ (by have := HL4.out; omega)).trans G2w9.out)
  have G3w10 := Lib.hid (show w10.heap[w.heap.size + 1]? = some (.cells #[.slice none 0 0, .slice none 0 0, .slice (some ⟨g, 0, none⟩) 1 c, .int .i64 0, .int .i64 0, .int .i64 1, .int .i64 1, .int .i64 1] 48 (0, 0)) from by rw [hw10]; exact (HX10.out.other _ (by have := HL4.out; omega)).trans G3w9.out)
  have G4w10 := Lib.hid (show w10.heap[w.heap.size + 1 + 1]? = some (.cells #[.int .i64 0, .int .i64 0, .int .i64 0, .slice none 0 0, .slice none 0 0, .slice none 0 0] 26 (0, 0)) from by rw [hw10]; exact (HX10.out.other _ (by have := HL4.out; omega)).trans G4w9.out)
  have hg10 : w10.heap[w4.heap.size]? = some (.cells #[.int .i64 1, .int .i64 0, .int .i64 0, .slice qa 0 qc, .slice none 0 0, .slice none 0 0] 26 (0, 0)) := by rw [hw10]; exact HX10.out.row
  have HG10 := Lib.hid hg10
  obtain ⟨sb, so, hsb, hsl, _, hsc9⟩ := (HH.out.kept HBT0.out).get (show 0 < 1 by omega)
  obtain ⟨rfl, rfl, _⟩ := hsb
  have d0 : w10.cell? ⟨g, 0, none⟩ = some (.int .i64 1) := by simpa using hsc9 0 _ rfl
  have d1 : w10.cell? ⟨g, 0 + 1, none⟩ = some (.int .i64 5) := by simpa using hsc9 1 _ rfl
  have n5 : w10.cell? ⟨w4.heap.size, 4, none⟩ = some (.slice none 0 0) := cell_blk hg10 rfl
  have hl10 : w4.heap.size < w10.heap.size := (Array.getElem?_eq_some_iff.1 hg10).1
  have HL10 := Lib.hid hl10
  clear hw10 hg10 hsc9 hsl v2 n4 f4
  rw [← HW10.out]
  refine wp_loop_rounds 2 ?_
  rw [rounds_succ]
  go_wp2_with fail
  refine (put_nilM 1 5 _ _).mono ?_
  rintro e w11 ⟨g1, c1, rfl, hge, hv, hb11⟩
  have hb11' : Below w10.heap.size w10 w11 := ((Below.refl _ _).alloc (Nat.le_refl _) _).trans (hb11.mono (by simp))
  have HB11 := Lib.hid (HBT0.out.trans (hb11'.mono HBT0.out.size))
  have G2w11 := Lib.hid ((hb11'.block (w.heap.size) (Array.getElem?_eq_some_iff.1 G2w10.out).1).trans G2w10.out)
  have G3w11 := Lib.hid ((hb11'.block (w.heap.size + 1) (Array.getElem?_eq_some_iff.1 G3w10.out).1).trans G3w10.out)
  have G4w11 := Lib.hid ((hb11'.block (w.heap.size + 1 + 1) (Array.getElem?_eq_some_iff.1 G4w10.out).1).trans G4w10.out)
  have HG11 := Lib.hid ((hb11'.block w4.heap.size (Array.getElem?_eq_some_iff.1 HG10.out).1).trans HG10.out)
  have HGE := Lib.hid (show w4.heap.size < g1 from by have := HL10.out; simp at hge; omega)
  have HV11 := Lib.hid hv
  have n6 : w11.cell? ⟨w4.heap.size, 4, none⟩ = some (.slice none 0 0) := cell_blk HG11.out rfl
  have f6 : w11.frozen? ⟨w4.heap.size, 4, none⟩ = false := fro_blk HG11.out 4
  clear hge hv hb11 hb11' d0 d1 n5 hl10
  go_wp2_with fail
  rw [rounds_succ]
  go_wp2_with fail
  obtain ⟨w12, hw12⟩ : ∃ w12, w12 = w11.setCell ⟨w4.heap.size, 4, none⟩ (.slice (some ⟨g1, 0, none⟩) 1 c1) := ⟨_, rfl⟩
  have HX12 := Lib.hid (cells_set HG11.out 4 (.slice (some ⟨g1, 0, none⟩) 1 c1))
  have HW12 := Lib.hid hw12
  have HB12 := Lib.hid (show Below w.heap.size w w12 from by rw [hw12]; exact HB11.out.setCell (p := ⟨w4.heap.size, 4, none⟩) (by have := HL4.out; show w.heap.size ≤ w4.heap.size; omega) _)
  have G2w12 := Lib.hid (show w12.heap[w.heap.size]? = some (.cells #[.int .i64 0, .int .i64 0, .int .i64 0, .slice none 0 0, .slice none 0 0, .slice none 0 0] 26 (0, 0)) from by rw [hw12]; exact (HX12.out.other _ (by have := HL4.out; omega)).trans G2w11.out)
  have G3w12 := Lib.hid (show w12.heap[w.heap.size + 1]? = some (.cells #[.slice none 0 0, .slice none 0 0, .slice (some ⟨g, 0, none⟩) 1 c, .int .i64 0, .int .i64 0, .int .i64 1, .int .i64 1, .int .i64 1] 48 (0, 0)) from by rw [hw12]; exact (HX12.out.other _ (by have := HL4.out; omega)).trans G3w11.out)
  have G4w12 := Lib.hid (show w12.heap[w.heap.size + 1 + 1]? = some (.cells #[.int .i64 0, .int .i64 0, .int .i64 0, .slice none 0 0, .slice none 0 0, .slice none 0 0] 26 (0, 0)) from by rw [hw12]; exact (HX12.out.other _ (by have := HL4.out; omega)).trans G4w11.out)
  have HG12 := Lib.hid (show w12.heap[w4.heap.size]? = some (.cells #[.int .i64 1, .int .i64 0, .int .i64 0, .slice qa 0 qc, .slice (some ⟨g1, 0, none⟩) 1 c1, .slice none 0 0] 26 (0, 0)) from by rw [hw12]; exact HX12.out.row)
  have HV12 := Lib.hid (show VecAt MarkS w12 (some ⟨g1, 0, none⟩) 1 c1 [(1, 5)] from by rw [hw12]; exact vec_set HV11.out (fun _ h => h) (fun b off s e => by cases e; have := HGE.out; omega))
  have HJ0 := Lib.hid (show JpA w w12 w4.heap.size (.slice qa 0 qc) (.slice (some ⟨g1, 0, none⟩) 1 c1) w12 from ⟨HB12.out, Nat.le_refl _, fun _ _ _ => rfl, _, HG12.out⟩)
  clear hw12 n6 f6
  rw [← HW12.out]
  refine wp_region_fill (by kernel_rfl) (by kernel_rfl) (by kernel_rfl) (JpA w w12 w4.heap.size (.slice qa 0 qc) (.slice (some ⟨g1, 0, none⟩) 1 c1)) (FV2 (fun j_9 => match j_9 with | 0 => some (.pointer (some ⟨w.heap.size, 5, none⟩)) | 1 => some (.slice none 0 0) | 2 => some (.slice none 0 0) | 3 => some (.pointer (some ⟨w.heap.size + 1, 5, none⟩)) | 4 => some (.agg #[.int .i64 1, .int .i64 1, .int .i64 1]) | 5 => none | 6 => some (.pointer (some ⟨w4.heap.size, 5, none⟩)) | 7 => none | _ => none) (SpA w4.heap.size (.slice qa 0 qc) (.slice (some ⟨g1, 0, none⟩) 1 c1))) HJ0.out.drew ?_ ?_
  · intro i9 o ho V w9 K hJ hdep hK
    have HJ := Lib.hid hJ
    simp only [fill, slotOf, List.size_toArray, List.length_cons, List.length_nil, Nat.reduceAdd, List.getElem?_toArray, List.getElem?_cons_zero, List.getElem?_cons_succ, Option.bind_some, Act.put, List.setIfInBounds_toArray, List.set_cons_zero, List.set_cons_succ] at hK ⊢
    have hin : i9 < 8 := (Array.getElem?_eq_some_iff.1 ho).1
    have hcs : i9 = 0 ∨ i9 = 1 ∨ i9 = 2 ∨ i9 = 3 ∨ i9 = 4 ∨ i9 = 5 ∨ i9 = 6 ∨ i9 = 7 := by omega
    clear hin
    rcases hcs with rfl | rfl | rfl | rfl | rfl | rfl | rfl | rfl
    · obtain rfl := Option.some.inj ho.symm
      clear hdep ho hJ
      try simp only [fill, slotOf, List.size_toArray, List.length_cons, List.length_nil, Nat.reduceAdd, List.getElem?_toArray, List.getElem?_cons_zero, List.getElem?_cons_succ, Option.bind_some, Act.put, List.setIfInBounds_toArray, List.set_cons_zero, List.set_cons_succ] at hK ⊢
      go_simp
      exact hK (.pointer (some ⟨w.heap.size, 5, none⟩)) _ HJ.out rfl (fun j y h => h) _ rfl
    · obtain rfl := Option.some.inj ho.symm
      have d0 : V 0 = .pointer (some ⟨w.heap.size, 5, none⟩) := hdep ⟨0, .data⟩ (by simp) rfl
      have a5 : w9.cell? ⟨w.heap.size, 5, none⟩ = some (.slice none 0 0) := cell_blk ((hJ.old (w.heap.size) (Array.getElem?_eq_some_iff.1 G2w12.out).1 (by have := HL4.out; omega)).trans G2w12.out) rfl
      clear hdep ho hJ
      try simp only [fill, slotOf, List.size_toArray, List.length_cons, List.length_nil, Nat.reduceAdd, List.getElem?_toArray, List.getElem?_cons_zero, List.getElem?_cons_succ, Option.bind_some, Act.put, List.setIfInBounds_toArray, List.set_cons_zero, List.set_cons_succ] at hK ⊢
      rw [d0] at hK ⊢
      go_simp
      exact hK (.slice none 0 0) _ HJ.out rfl (fun j y h => h) _ rfl
    · obtain rfl := Option.some.inj ho.symm
      have d1 : V 1 = .slice none 0 0 := hdep ⟨1, .data⟩ (by simp) rfl
      clear hdep ho hJ
      try simp only [fill, slotOf, List.size_toArray, List.length_cons, List.length_nil, Nat.reduceAdd, List.getElem?_toArray, List.getElem?_cons_zero, List.getElem?_cons_succ, Option.bind_some, Act.put, List.setIfInBounds_toArray, List.set_cons_zero, List.set_cons_succ] at hK ⊢
      rw [d1] at hK ⊢
      go_simp
      refine (clone_nilO' w9).mono ?_
      rintro e w8 ⟨rfl, hb8⟩
      exact hK (.slice none 0 0) _ (HJ.out.trans hb8) rfl (FV2.mono (SpA.mono HJ.out.lt hb8)) _ rfl
    · obtain rfl := Option.some.inj ho.symm
      clear hdep ho hJ
      try simp only [fill, slotOf, List.size_toArray, List.length_cons, List.length_nil, Nat.reduceAdd, List.getElem?_toArray, List.getElem?_cons_zero, List.getElem?_cons_succ, Option.bind_some, Act.put, List.setIfInBounds_toArray, List.set_cons_zero, List.set_cons_succ] at hK ⊢
      go_simp
      exact hK (.pointer (some ⟨w.heap.size + 1, 5, none⟩)) _ HJ.out rfl (fun j y h => h) _ rfl
    · obtain rfl := Option.some.inj ho.symm
      have d3 : V 3 = .pointer (some ⟨w.heap.size + 1, 5, none⟩) := hdep ⟨3, .data⟩ (by simp) rfl
      have e5 : w9.cell? ⟨w.heap.size + 1, 5, none⟩ = some (.int .i64 1) := cell_blk ((hJ.old (w.heap.size + 1) (Array.getElem?_eq_some_iff.1 G3w12.out).1 (by have := HL4.out; omega)).trans G3w12.out) rfl
      have e6 : w9.cell? ⟨w.heap.size + 1, 6, none⟩ = some (.int .i64 1) := cell_blk ((hJ.old (w.heap.size + 1) (Array.getElem?_eq_some_iff.1 G3w12.out).1 (by have := HL4.out; omega)).trans G3w12.out) rfl
      have e7 : w9.cell? ⟨w.heap.size + 1, 7, none⟩ = some (.int .i64 1) := cell_blk ((hJ.old (w.heap.size + 1) (Array.getElem?_eq_some_iff.1 G3w12.out).1 (by have := HL4.out; omega)).trans G3w12.out) rfl
      clear hdep ho hJ
      try simp only [fill, slotOf, List.size_toArray, List.length_cons, List.length_nil, Nat.reduceAdd, List.getElem?_toArray, List.getElem?_cons_zero, List.getElem?_cons_succ, Option.bind_some, Act.put, List.setIfInBounds_toArray, List.set_cons_zero, List.set_cons_succ] at hK ⊢
      rw [d3] at hK ⊢
      go_simp
      exact hK (.agg #[.int .i64 1, .int .i64 1, .int .i64 1]) _ HJ.out rfl (fun j y h => h) _ rfl
    · obtain rfl := Option.some.inj ho.symm
      have d2 : V 2 = .slice none 0 0 := hdep ⟨2, .data⟩ (by simp) rfl
      have d4 : V 4 = .agg #[.int .i64 1, .int .i64 1, .int .i64 1] := hdep ⟨4, .data⟩ (by simp) rfl
      clear hdep ho hJ
      try simp only [fill, slotOf, List.size_toArray, List.length_cons, List.length_nil, Nat.reduceAdd, List.getElem?_toArray, List.getElem?_cons_zero, List.getElem?_cons_succ, Option.bind_some, Act.put, List.setIfInBounds_toArray, List.set_cons_zero, List.set_cons_succ] at hK ⊢
      rw [d2, d4] at hK ⊢
      go_simp
      refine (put_nilO 1 1 1 _ w9).mono ?_
      rintro e w8 ⟨g2, c2, rfl, hge8, hv8, hb8⟩
      exact hK (.slice (some ⟨g2, 0, none⟩) 1 c2) _ (HJ.out.trans hb8) (SpA.at5 (E := .slice qa 0 qc) (M := .slice (some ⟨g1, 0, none⟩) 1 c1) (Nat.lt_of_lt_of_le HJ.out.lt hge8) hv8) (FV2.mono (SpA.mono HJ.out.lt hb8)) _ rfl
    · obtain rfl := Option.some.inj ho.symm
      clear hdep ho hJ
      try simp only [fill, slotOf, List.size_toArray, List.length_cons, List.length_nil, Nat.reduceAdd, List.getElem?_toArray, List.getElem?_cons_zero, List.getElem?_cons_succ, Option.bind_some, Act.put, List.setIfInBounds_toArray, List.set_cons_zero, List.set_cons_succ] at hK ⊢
      go_simp
      exact hK (.pointer (some ⟨w4.heap.size, 5, none⟩)) _ HJ.out rfl (fun j y h => h) _ rfl
    · have hoo := Option.some.inj ho.symm
      obtain ⟨g2, c2, eV5, hg2, hv2⟩ : ∃ g2 c2, V 5 = .slice (some ⟨g2, 0, none⟩) 1 c2 ∧ w4.heap.size < g2 ∧ VecAt OwnS w9 (some ⟨g2, 0, none⟩) 1 c2 [(1, 1, 1)] := hdep ⟨5, .data⟩ (by rw [hoo]; simp) rfl
      subst hoo
      have d6 : V 6 = .pointer (some ⟨w4.heap.size, 5, none⟩) := hdep ⟨6, .data⟩ (by simp) rfl
      have HV5 := Lib.hid hv2
      obtain ⟨x9, hx9⟩ := hJ.row
      have HX5 := Lib.hid hx9
      have c5 : w9.cell? ⟨w4.heap.size, 5, none⟩ = some x9 := cell_blk hx9 rfl
      have fz5 : w9.frozen? ⟨w4.heap.size, 5, none⟩ = false := fro_blk hx9 5
      clear hdep ho hJ hv2 hx9
      try simp only [fill, slotOf, List.size_toArray, List.length_cons, List.length_nil, Nat.reduceAdd, List.getElem?_toArray, List.getElem?_cons_zero, List.getElem?_cons_succ, Option.bind_some, Act.put, List.setIfInBounds_toArray, List.set_cons_zero, List.set_cons_succ] at hK ⊢
      rw [d6, eV5] at hK ⊢
      go_simp
      exact hK undef _ (HJ.out.set (by have := HL4.out; omega) _) (SpA.at7 (u := undef) hg2 HX5.out HV5.out) (FV2.mono (SpA.set hg2 HX5.out HV5.out)) _ rfl
  · intro V w9 hJ hall
    have h7 : ∃ g2 c2, w9.heap[w4.heap.size]? = some (.cells #[.int .i64 1, .int .i64 0, .int .i64 0, .slice qa 0 qc, .slice (some ⟨g1, 0, none⟩) 1 c1, .slice (some ⟨g2, 0, none⟩) 1 c2] 26 (0, 0)) ∧ VecAt OwnS w9 (some ⟨g2, 0, none⟩) 1 c2 [(1, 1, 1)] ∧ w4.heap.size < g2 := hall 7 (by decide)
    have HJ9 := Lib.hid hJ
    clear hall hJ
    simp only [fill, slotOf, List.size_toArray, List.length_cons, List.length_nil, Nat.reduceAdd, List.getElem?_toArray, List.getElem?_cons_zero, List.getElem?_cons_succ, Option.bind_some, Act.put, List.setIfInBounds_toArray, List.set_cons_zero, List.set_cons_succ]
    obtain ⟨g2, c2, hrow, hv2, hg2⟩ := h7
    have HG2 := Lib.hid hg2
    have HRW := Lib.hid hrow
    have HV2 := Lib.hid hv2
    have HM9 := Lib.hid (HV12.out.kept2 HJ9.out HGE.out)
    have HG4 := Lib.hid (show w9.heap[w.heap.size + 1 + 1]? = some (.cells #[.int .i64 0, .int .i64 0, .int .i64 0, .slice none 0 0, .slice none 0 0, .slice none 0 0] 26 (0, 0)) from (HJ9.out.old (w.heap.size + 1 + 1) (Array.getElem?_eq_some_iff.1 G4w12.out).1 (by have := HL4.out; omega)).trans G4w12.out)
    have n0 : w9.cell? ⟨w4.heap.size, 0, none⟩ = some (.int .i64 1) := cell_blk hrow rfl
    have n1 : w9.cell? ⟨w4.heap.size, 1, none⟩ = some (.int .i64 0) := cell_blk hrow rfl
    have n2 : w9.cell? ⟨w4.heap.size, 2, none⟩ = some (.int .i64 0) := cell_blk hrow rfl
    have n3 : w9.cell? ⟨w4.heap.size, 3, none⟩ = some (.slice qa 0 qc) := cell_blk hrow rfl
    have n4 : w9.cell? ⟨w4.heap.size, 4, none⟩ = some (.slice (some ⟨g1, 0, none⟩) 1 c1) := cell_blk hrow rfl
    have n5 : w9.cell? ⟨w4.heap.size, 5, none⟩ = some (.slice (some ⟨g2, 0, none⟩) 1 c2) := cell_blk hrow rfl
    have m0 : w9.cell? ⟨w.heap.size + 1 + 1, 0, none⟩ = some (.int .i64 0) := cell_blk HG4.out rfl
    have m1 : w9.cell? ⟨w.heap.size + 1 + 1, 1, none⟩ = some (.int .i64 0) := cell_blk HG4.out rfl
    have m2 : w9.cell? ⟨w.heap.size + 1 + 1, 2, none⟩ = some (.int .i64 0) := cell_blk HG4.out rfl
    have m3 : w9.cell? ⟨w.heap.size + 1 + 1, 3, none⟩ = some (.slice none 0 0) := cell_blk HG4.out rfl
    have m4 : w9.cell? ⟨w.heap.size + 1 + 1, 4, none⟩ = some (.slice none 0 0) := cell_blk HG4.out rfl
    have m5 : w9.cell? ⟨w.heap.size + 1 + 1, 5, none⟩ = some (.slice none 0 0) := cell_blk HG4.out rfl
    have z0 : w9.frozen? ⟨w.heap.size + 1 + 1, 0, none⟩ = false := fro_blk HG4.out 0
    have z1 : w9.frozen? ⟨w.heap.size + 1 + 1, 1, none⟩ = false := fro_blk HG4.out 1
    have z2 : w9.frozen? ⟨w.heap.size + 1 + 1, 2, none⟩ = false := fro_blk HG4.out 2
    have z3 : w9.frozen? ⟨w.heap.size + 1 + 1, 3, none⟩ = false := fro_blk HG4.out 3
    have z4 : w9.frozen? ⟨w.heap.size + 1 + 1, 4, none⟩ = false := fro_blk HG4.out 4
    have z5 : w9.frozen? ⟨w.heap.size + 1 + 1, 5, none⟩ = false := fro_blk HG4.out 5
    clear hrow hv2 hg2
    go_wp2_with fail
    refine bodyPost_ret (ret_cell_tmp rfl _ _ (w.heap.size + 1 + 1) 26 #[.int .i64 1, .int .i64 0, .int .i64 0, .slice qa 0 qc, .slice (some ⟨g1, 0, none⟩) 1 c1, .slice (some ⟨g2, 0, none⟩) 1 c2] _ _ rfl (set6 HG4.out _ _ _ _ _ _) Tryz.underlying26 rfl (by kernel_rfl)) rfl ?_
    exact ⟨qa, qc, g1, c1, g2, c2, rfl, vec6 HM9.out (fun _ _ _ h => h) (by have := HGE.out; have := HL4.out; omega) _ _ _ _ _ _, vec6 HV2.out (fun _ _ _ h => h) (by have := HG2.out; have := HL4.out; omega) _ _ _ _ _ _, below6 HJ9.out.below (by omega) _ _ _ _ _ _⟩


end Go.Proofs.YtbdgcfimbblncaaGreatDoor
end PkMR4_0
section PkMR4_1
/- Manifests: the document's Twin, walked. Written by genmftw.py. -/
namespace Go.Proofs.YtbdgcfimbblncaaGreatDoor
open Go.RowKit LabPlain
set_option linter.unusedVariables false

theorem info9E : (Tryz.prog.info? 53).map (fun i => (i.zero, i.size, i.bytes)) = some (some (.agg #[.string ByteArray.empty, .int .i64 0, .string ByteArray.empty, .int .i64 0, .int .i64 0, .int .i64 0, .int .i64 0, .int .u32 0, .int .i64 0]), 9, 88) := by kernel_rfl
theorem info9M : (Tryz.prog.info? 43).map (fun i => (i.zero, i.size, i.bytes)) = some (some (.agg #[.int .i64 0, .int .i64 0]), 2, 16) := by kernel_rfl
theorem info9O : (Tryz.prog.info? 45).map (fun i => (i.zero, i.size, i.bytes)) = some (some (.agg #[.int .i64 0, .int .i64 0, .int .i64 0]), 3, 24) := by kernel_rfl
theorem own_addr {base n k : Nat} {w : World} {e : TypeId} {xs : List Value} {a : Option Addr} {c : Nat} (h : w.ownsRow base e k (.slice a n c) n xs) : ∀ b off s, a = some ⟨b, off, s⟩ → base ≤ b := by
  intro b off s e2
  rcases h.2 with ⟨e1, _⟩ | ⟨g, cap, cu, e1, hg, _⟩
  · cases e1; cases e2
  · cases e1; cases e2; exact hg
theorem own_slice9 {base n : Nat} {w : World} {e : TypeId} {k : Nat} {v : Value} {xs : List Value} (ho : w.ownsRow base e k v n xs) : ∃ a c, v = .slice a n c := by
  rcases ho.2 with ⟨rfl, h0⟩ | ⟨g, cap, cu, rfl, _⟩
  · exact ⟨none, 0, by rw [h0]⟩
  · exact ⟨_, _, rfl⟩

theorem wpList_append9E {w : World} {ops : Array Oper} {rest : List Oper} {o : Oper} {a : Act} {Q : Exit → Act → World → Prop} (hgd : o.guard = none) (s x : Operand)
    (ho : o.op = .call { callee := .builtin .append, args := #[s, x], argTypes := #[22, 22] })
    (base : Nat) (v : Value) (n : Nat) (xs : List EntV) (hs : a.eval s = v) (hown : w.ownsRow base 53 9 v n (EntS.flat xs))
    (src : Option Addr) (m c : Nat) (ys : List EntV) (hx : a.eval x = .slice src m c) (hb : VecAt EntS w src m c ys)
    (h63 : (n + m) * 88 ≤ 140737488355328) (hbase : base ≤ w.heap.size)
    (h : ∀ v' w', w'.ownsRow base 53 9 v' (n + m) (EntS.flat (xs ++ ys)) → w.grownBy w' v.ownBlock → wpList Tryz.prog ops Q rest (a.put o.dst v') w') : wpList Tryz.prog ops Q (o :: rest) a w := by
  obtain ⟨i0, hi, hz0, hz1, hz2⟩ := info_parts info9E
  have happ : EntS.flat (xs ++ ys) = EntS.flat xs ++ EntS.flat ys := by unfold Sty.flat; rw [List.flatMap_append]
  rcases src with _ | ad
  · have hc := hb.nl rfl
    have hm : m = 0 := by have := hb.cap; omega
    subst hm
    subst hc
    have hy : ys = [] := List.eq_nil_of_length_eq_zero hb.len
    subst hy
    refine wpList_append_own_none hgd s x 22 ho base 53 i0 9 Tryz.underlying22 hi v n (EntS.flat xs) hs hown hx ?_
    exact h v w (by simpa using hown) (World.grownBy.refl _ _)
  · refine wpList_append_own_at w hgd s x 22 ho base 53 i0 _ 9 88 Tryz.underlying22 hi hz0 hz1 hz2 rfl (by decide) v n (EntS.flat xs) hs hown ad m c (EntS.flat ys) hx (by rw [Sty.flat_len, hb.len]; rfl) hb.src (Sty.flat_one _ _) (by unfold maxLen; omega) h63 hbase ?_
    intro v' w' h1 h2 _ _
    exact h v' w' (by rw [happ]; exact h1) h2

theorem wpList_append9M {w : World} {ops : Array Oper} {rest : List Oper} {o : Oper} {a : Act} {Q : Exit → Act → World → Prop} (hgd : o.guard = none) (s x : Operand)
    (ho : o.op = .call { callee := .builtin .append, args := #[s, x], argTypes := #[23, 23] })
    (base : Nat) (v : Value) (n : Nat) (xs : List (Int × Int)) (hs : a.eval s = v) (hown : w.ownsRow base 43 2 v n (MarkS.flat xs))
    (src : Option Addr) (m c : Nat) (ys : List (Int × Int)) (hx : a.eval x = .slice src m c) (hb : VecAt MarkS w src m c ys)
    (h63 : (n + m) * 16 ≤ 140737488355328) (hbase : base ≤ w.heap.size)
    (h : ∀ v' w', w'.ownsRow base 43 2 v' (n + m) (MarkS.flat (xs ++ ys)) → w.grownBy w' v.ownBlock → wpList Tryz.prog ops Q rest (a.put o.dst v') w') : wpList Tryz.prog ops Q (o :: rest) a w := by
  obtain ⟨i0, hi, hz0, hz1, hz2⟩ := info_parts info9M
  have happ : MarkS.flat (xs ++ ys) = MarkS.flat xs ++ MarkS.flat ys := by unfold Sty.flat; rw [List.flatMap_append]
  rcases src with _ | ad
  · have hc := hb.nl rfl
    have hm : m = 0 := by have := hb.cap; omega
    subst hm
    subst hc
    have hy : ys = [] := List.eq_nil_of_length_eq_zero hb.len
    subst hy
    refine wpList_append_own_none hgd s x 23 ho base 43 i0 2 Tryz.underlying23 hi v n (MarkS.flat xs) hs hown hx ?_
    exact h v w (by simpa using hown) (World.grownBy.refl _ _)
  · refine wpList_append_own_at w hgd s x 23 ho base 43 i0 _ 2 16 Tryz.underlying23 hi hz0 hz1 hz2 rfl (by decide) v n (MarkS.flat xs) hs hown ad m c (MarkS.flat ys) hx (by rw [Sty.flat_len, hb.len]; rfl) hb.src (Sty.flat_one _ _) (by unfold maxLen; omega) h63 hbase ?_
    intro v' w' h1 h2 _ _
    exact h v' w' (by rw [happ]; exact h1) h2

theorem wpList_append9O {w : World} {ops : Array Oper} {rest : List Oper} {o : Oper} {a : Act} {Q : Exit → Act → World → Prop} (hgd : o.guard = none) (s x : Operand)
    (ho : o.op = .call { callee := .builtin .append, args := #[s, x], argTypes := #[24, 24] })
    (base : Nat) (v : Value) (n : Nat) (xs : List (Int × Int × Int)) (hs : a.eval s = v) (hown : w.ownsRow base 45 3 v n (OwnS.flat xs))
    (src : Option Addr) (m c : Nat) (ys : List (Int × Int × Int)) (hx : a.eval x = .slice src m c) (hb : VecAt OwnS w src m c ys)
    (h63 : (n + m) * 24 ≤ 140737488355328) (hbase : base ≤ w.heap.size)
    (h : ∀ v' w', w'.ownsRow base 45 3 v' (n + m) (OwnS.flat (xs ++ ys)) → w.grownBy w' v.ownBlock → wpList Tryz.prog ops Q rest (a.put o.dst v') w') : wpList Tryz.prog ops Q (o :: rest) a w := by
  obtain ⟨i0, hi, hz0, hz1, hz2⟩ := info_parts info9O
  have happ : OwnS.flat (xs ++ ys) = OwnS.flat xs ++ OwnS.flat ys := by unfold Sty.flat; rw [List.flatMap_append]
  rcases src with _ | ad
  · have hc := hb.nl rfl
    have hm : m = 0 := by have := hb.cap; omega
    subst hm
    subst hc
    have hy : ys = [] := List.eq_nil_of_length_eq_zero hb.len
    subst hy
    refine wpList_append_own_none hgd s x 24 ho base 45 i0 3 Tryz.underlying24 hi v n (OwnS.flat xs) hs hown hx ?_
    exact h v w (by simpa using hown) (World.grownBy.refl _ _)
  · refine wpList_append_own_at w hgd s x 24 ho base 45 i0 _ 3 24 Tryz.underlying24 hi hz0 hz1 hz2 rfl (by decide) v n (OwnS.flat xs) hs hown ad m c (OwnS.flat ys) hx (by rw [Sty.flat_len, hb.len]; rfl) hb.src (Sty.flat_one _ _) (by unfold maxLen; omega) h63 hbase ?_
    intro v' w' h1 h2 _ _
    exact h v' w' (by rw [happ]; exact h1) h2

theorem vec6o {α : Type} {S : Sty α} {v : World} {R : Nat} {a : Option Addr} {n c : Nat} {l : List α} (h : VecAt S v a n c l) (hok : ∀ (w w' : World) x, S.ok w x → S.ok w' x) (hn : ∀ b off s, a = some ⟨b, off, s⟩ → b ≠ R) (x0 x1 x2 x3 x4 x5 : Value) : VecAt S ((((((v.setCell ⟨R, 0, none⟩ x0).setCell ⟨R, 1, none⟩ x1).setCell ⟨R, 2, none⟩ x2).setCell ⟨R, 3, none⟩ x3).setCell ⟨R, 4, none⟩ x4).setCell ⟨R, 5, none⟩ x5) a n c l :=
  vec_set (vec_set (vec_set (vec_set (vec_set (vec_set h (hok _ _) hn) (hok _ _) hn) (hok _ _) hn) (hok _ _) hn) (hok _ _) hn) (hok _ _) hn
/-- but for one block, what was there is as it was -/
structure Ob (B : Nat) (w w' : World) : Prop where
  size : w.heap.size ≤ w'.heap.size
  old : ∀ k, k < w.heap.size → k ≠ B → w'.heap[k]? = w.heap[k]?
theorem Ob.trans {B : Nat} {w w1 w2 : World} (h : Ob B w w1) (k : Ob B w1 w2) : Ob B w w2 := ⟨Nat.le_trans h.size k.size, fun i hi hn => (k.old i (Nat.lt_of_lt_of_le hi h.size) hn).trans (h.old i hi hn)⟩
theorem Ob.set {B i : Nat} {w : World} {cur : Array Value} {t : TypeId} (g : w.heap[B]? = some (.cells cur t (0, 0))) (u : Value) : Ob B w (w.setCell ⟨B, i, none⟩ u) := ⟨by simp, fun k _ hk => (cells_set g i u).other k hk⟩
theorem VecAt.ob {α : Type} {S : Sty α} {w w' : World} {a : Option Addr} {n c B : Nat} {l : List α} (h : VecAt S w a n c l) (hj : Ob B w w') (hok : ∀ x, S.ok w x → S.ok w' x) (hne : ∀ b off s, a = some ⟨b, off, s⟩ → b ≠ B) : VecAt S w' a n c l :=
  ⟨h.len, h.cap, h.capm, h.nl, fun x hx => hok x (h.all x hx), fun hn => by
    obtain ⟨b, off, ha, hlt, hc⟩ := h.cells hn
    have hb : w'.heap[b]? = w.heap[b]? := hj.old b hlt (hne b off none ha)
    exact ⟨b, off, ha, Nat.lt_of_lt_of_le hlt hj.size, fun i hi j v hv => (World.cell?_of_block (w := w) (a := ⟨b, _, none⟩) hb).trans (hc i hi j v hv)⟩⟩
/-- an empty row made, appended to: what was there is as it was; the row lies above -/
theorem step_row {w w1 w2 : World} {T : TypeId} (B : Nat) (h1 : w1 = w.alloc (.cells #[] T)) (hg : w1.grownBy w2 (Value.slice (some ⟨w.heap.size, 0, none⟩) 0 0).ownBlock) : Ob B w w2 ∧ (∀ k, k < w.heap.size → w2.heap[k]? = w.heap[k]?) ∧ (∀ w0, Below w0.heap.size w0 w → Below w0.heap.size w0 w2) := by
  have hs : w1.heap.size = w.heap.size + 1 := by rw [h1]; exact Array.size_push _
  have hk : ∀ k, k < w.heap.size → w2.heap[k]? = w.heap[k]? := fun k hk => (hg.block k (by omega) (by simp [Value.ownBlock]; omega)).trans (by rw [h1]; exact hao9 _ _ _ hk)
  refine ⟨⟨by have := hg.size; omega, fun k h _ => hk k h⟩, hk, fun w0 hb => ?_⟩
  have hb1 : Below w0.heap.size w0 w1 := by rw [h1]; exact hb.alloc hb.size _
  exact hb1.grown hg hb1.size (fun k e => by simp [Value.ownBlock] at e; have := hb.size; omega)

set_option maxRecDepth 100000 in
set_option maxHeartbeats 8000000 in
theorem rtwin13_any {w : World} {s d hz : Int} {ea ma oa : Option Addr} {en ec mn mc on oc : Nat} {le : List EntV} {lm : List (Int × Int)} {lo : List (Int × Int × Int)} (hE : VecAt EntS w ea en ec le) (hM : VecAt MarkS w ma mn mc lm) (hO : VecAt OwnS w oa on oc lo) (hen : en ≤ 1000) (hmn : mn ≤ 1000) (hon : on ≤ 1000) :
    Calls Tryz.prog 8 #[.agg #[.int .i64 s, .int .i64 d, .int .i64 hz, .slice ea en ec, .slice ma mn mc, .slice oa on oc]] w fun e w' => ∃ ea' ec' ma' mc' oa' oc', e = .returned (.agg #[.int .i64 s, .int .i64 d, .int .i64 hz, .slice ea' en ec', .slice ma' mn mc', .slice oa' on oc']) ∧ VecAt EntS w' ea' en ec' le ∧ VecAt MarkS w' ma' mn mc' lm ∧ VecAt OwnS w' oa' on oc' lo ∧ Below w.heap.size w w' := by
  have h63 : en * 88 ≤ 140737488355328 ∧ mn * 16 ≤ 140737488355328 ∧ on * 24 ≤ 140737488355328 := by omega
  obtain ⟨wa, hwa⟩ : ∃ wa, wa = w.alloc (.cells #[.int .i64 s, .int .i64 d, .int .i64 hz, .slice ea en ec, .slice ma mn mc, .slice oa on oc] 26) := ⟨_, rfl⟩
  obtain ⟨w0, hw0⟩ : ∃ w0, w0 = wa.alloc (.cells #[.int .i64 0, .int .i64 0, .int .i64 0, .slice none 0 0, .slice none 0 0, .slice none 0 0] 26) := ⟨_, rfl⟩
  have sa : wa.heap.size = w.heap.size + 1 := by rw [hwa]; exact Array.size_push _
  have s0 : w0.heap.size = w.heap.size + 1 + 1 := by rw [hw0]; show (wa.heap.push _).size = _; rw [Array.size_push, sa]
  have b0 : Below w.heap.size w w0 := by
    have ba : Below w.heap.size w wa := by rw [hwa]; exact (Below.refl _ _).alloc (Nat.le_refl _) _
    rw [hw0]; exact ba.alloc ba.size _
  have g0 : w0.heap[w.heap.size]? = some (.cells #[.int .i64 s, .int .i64 d, .int .i64 hz, .slice ea en ec, .slice ma mn mc, .slice oa on oc] 26 (0, 0)) := by rw [hw0, hao9 _ _ _ (by omega), hwa]; exact heap_alloc_new _ _
  have r0 : w0.heap[w.heap.size + 1]? = some (.cells #[.int .i64 0, .int .i64 0, .int .i64 0, .slice none 0 0, .slice none 0 0, .slice none 0 0] 26 (0, 0)) := by rw [hw0, ← sa]; exact heap_alloc_new _ _
  have HM := Lib.hid hM
  have HO := Lib.hid hO
  have HE := Lib.hid hE
  have H63 := Lib.hid h63
  have HLW := Lib.hid (show w.heap.size < w0.heap.size ∧ w.heap.size + 1 < w0.heap.size from by omega)

  have hown1 := World.ownsRow_lit (base := w0.heap.size) (e := 53) (size := 9) w0 #[] 0 (Nat.le_refl _) (by unfold maxLen; omega) rfl
  have hve1 := (HE.out.kept (b0.alloc b0.size (.cells #[] 53)))
  have hsd1 : w0.heap.size ≤ (w0.alloc (.cells #[] 53)).heap.size := ((Below.refl w0.heap.size w0).alloc (Nat.le_refl _) _).size
  have a1 : w0.cell? ⟨w.heap.size, 3, none⟩ = some (.slice ea en ec) := cell_blk g0 rfl
  have t1 : w0.frozen? ⟨w.heap.size, 3, none⟩ = false := fro_blk g0 3
  have G1 := Lib.hid g0
  have R1 := Lib.hid r0
  have B1 := Lib.hid b0
  have SZ1 := Lib.hid s0
  rw [s0] at hown1 hsd1
  rw [hw0, hwa] at hown1 hve1 hsd1 a1 t1
  have HWE1 := Lib.hid (show ((w.alloc (.cells #[.int .i64 s, .int .i64 d, .int .i64 hz, .slice ea en ec, .slice ma mn mc, .slice oa on oc] 26)).alloc (.cells #[.int .i64 0, .int .i64 0, .int .i64 0, .slice none 0 0, .slice none 0 0, .slice none 0 0] 26)) = w0 from by rw [hw0, hwa])
  have HOW1 := Lib.hid hown1
  have HVE1 := Lib.hid hve1
  have HSD1 := Lib.hid hsd1
  clear hwa hw0 sa s0 b0 g0 r0 hown1 hve1 hsd1 hE hM hO h63
  go_enter Tryz.func8, Tryz.ntmps8
  go_wp2_with (at_builtin; refine wpList_append9E rfl (.tmp 3) (.tmp 5) rfl (w.heap.size + 1 + 1) _ 0 [] rfl HOW1.out _ _ _ _ rfl HVE1.out (by have := H63.out.1; omega) HSD1.out ?_)
  intro v1 q1 ho1 hg1
  try simp only [List.nil_append, Nat.zero_add] at ho1
  rw [HWE1.out] at hg1
  rw [← SZ1.out] at hg1
  obtain ⟨ob1, hk1, hbb1⟩ := step_row w.heap.size rfl hg1
  have gq1 := (hk1 w.heap.size (Array.getElem?_eq_some_iff.1 G1.out).1).trans G1.out
  have rq1 := (hk1 (w.heap.size + 1) (Array.getElem?_eq_some_iff.1 R1.out).1).trans R1.out
  have bq1 : Below w.heap.size w q1 := hbb1 w B1.out
  obtain ⟨e1, c1, rfl⟩ := own_slice9 ho1
  have hne1 := own_addr ho1
  have hv1 := VecAt.ofOwn (S := EntS) ho1 HE.out.len (fun x hx => EntS.mono bq1 (HE.out.all x hx))
  obtain ⟨w1, hw1x⟩ : ∃ w1, w1 = q1.setCell ⟨w.heap.size, 3, none⟩ (.slice e1 en c1) := ⟨_, rfl⟩
  have g1 : w1.heap[w.heap.size]? = some (.cells #[.int .i64 s, .int .i64 d, .int .i64 hz, .slice e1 en c1, .slice ma mn mc, .slice oa on oc] 26 (0, 0)) := by rw [hw1x]; exact heap_set gq1 3 _
  have r1 : w1.heap[w.heap.size + 1]? = some (.cells #[.int .i64 0, .int .i64 0, .int .i64 0, .slice none 0 0, .slice none 0 0, .slice none 0 0] 26 (0, 0)) := by rw [hw1x]; exact ((cells_set gq1 3 _).other (w.heap.size + 1) (by omega)).trans rq1
  have b1 : Below w.heap.size w w1 := by rw [hw1x]; exact bq1.setCell (p := ⟨w.heap.size, 3, none⟩) (Nat.le_refl _) _
  have s1 : w1.heap.size = q1.heap.size := by rw [hw1x]; simp
  have os1 : Ob w.heap.size q1 w1 := by rw [hw1x]; exact Ob.set gq1 _
  have hsz1 : w.heap.size + 1 < w.heap.size + 1 + 1 ∧ w.heap.size + 1 + 1 ≤ q1.heap.size := ⟨by omega, by have := ob1.size; have h2 := SZ1.out; omega⟩
  have hl1 : w.heap.size < q1.heap.size := by omega
  have hm1 : w.heap.size + 1 < q1.heap.size := by omega
  have HN1 := Lib.hid (show ∀ b off s, e1 = some ⟨b, off, s⟩ → b ≠ w.heap.size ∧ b ≠ w.heap.size + 1 from fun b off s e => by have := hne1 b off s e; omega)
  have HR1 := Lib.hid (hv1.ob os1 (fun _ h => h) (fun b off s e => (HN1.out b off s e).1))
  have a1b : q1.cell? ⟨w.heap.size, 3, none⟩ = some (.slice ea en ec) := cell_blk gq1 rfl
  have t1b : q1.frozen? ⟨w.heap.size, 3, none⟩ = false := fro_blk gq1 3
  clear ho1 hg1 ob1 hk1 hbb1 gq1 rq1 bq1 hne1 hv1 os1 a1 t1
  have hown2 := World.ownsRow_lit (base := w1.heap.size) (e := 43) (size := 2) w1 #[] 0 (Nat.le_refl _) (by unfold maxLen; omega) rfl
  have hve2 := (HM.out.kept (b1.alloc b1.size (.cells #[] 43)))
  have hsd2 : w1.heap.size ≤ (w1.alloc (.cells #[] 43)).heap.size := ((Below.refl w1.heap.size w1).alloc (Nat.le_refl _) _).size
  have a2 : w1.cell? ⟨w.heap.size, 4, none⟩ = some (.slice ma mn mc) := cell_blk g1 rfl
  have t2 : w1.frozen? ⟨w.heap.size, 4, none⟩ = false := fro_blk g1 4
  have G2 := Lib.hid g1
  have R2 := Lib.hid r1
  have B2 := Lib.hid b1
  have SZ2 := Lib.hid s1
  rw [s1] at hown2 hsd2
  rw [hw1x] at hown2 hve2 hsd2 a2 t2
  have HWE2 := Lib.hid (show q1.setCell ⟨w.heap.size, 3, none⟩ (.slice e1 en c1) = w1 from hw1x.symm)
  have HOW2 := Lib.hid hown2
  have HVE2 := Lib.hid hve2
  have HSD2 := Lib.hid hsd2
  clear hw1x s1 b1 g1 r1 hown2 hve2 hsd2
  go_wp2_with (at_builtin; refine wpList_append9M rfl (.tmp 8) (.tmp 10) rfl (q1.heap.size) _ 0 [] rfl HOW2.out _ _ _ _ rfl HVE2.out (by have := H63.out.2.1; omega) HSD2.out ?_)
  intro v2 q2 ho2 hg2
  try simp only [List.nil_append, Nat.zero_add] at ho2
  rw [HWE2.out] at hg2
  rw [← SZ2.out] at hg2
  obtain ⟨ob2, hk2, hbb2⟩ := step_row w.heap.size rfl hg2
  have gq2 := (hk2 w.heap.size (Array.getElem?_eq_some_iff.1 G2.out).1).trans G2.out
  have rq2 := (hk2 (w.heap.size + 1) (Array.getElem?_eq_some_iff.1 R2.out).1).trans R2.out
  have bq2 : Below w.heap.size w q2 := hbb2 w B2.out
  obtain ⟨e2, c2, rfl⟩ := own_slice9 ho2
  have hne2 := own_addr ho2
  have hv2 := VecAt.ofOwn (S := MarkS) ho2 HM.out.len (fun x hx => MarkS.mono bq2 (HM.out.all x hx))
  obtain ⟨w2, hw2x⟩ : ∃ w2, w2 = q2.setCell ⟨w.heap.size, 4, none⟩ (.slice e2 mn c2) := ⟨_, rfl⟩
  have g2 : w2.heap[w.heap.size]? = some (.cells #[.int .i64 s, .int .i64 d, .int .i64 hz, .slice e1 en c1, .slice e2 mn c2, .slice oa on oc] 26 (0, 0)) := by rw [hw2x]; exact heap_set gq2 4 _
  have r2 : w2.heap[w.heap.size + 1]? = some (.cells #[.int .i64 0, .int .i64 0, .int .i64 0, .slice none 0 0, .slice none 0 0, .slice none 0 0] 26 (0, 0)) := by rw [hw2x]; exact ((cells_set gq2 4 _).other (w.heap.size + 1) (by omega)).trans rq2
  have b2 : Below w.heap.size w w2 := by rw [hw2x]; exact bq2.setCell (p := ⟨w.heap.size, 4, none⟩) (Nat.le_refl _) _
  have s2 : w2.heap.size = q2.heap.size := by rw [hw2x]; simp
  have os2 : Ob w.heap.size q2 w2 := by rw [hw2x]; exact Ob.set gq2 _
  have hsz2 : w.heap.size + 1 < q1.heap.size ∧ q1.heap.size ≤ q2.heap.size := ⟨by have := hsz1; omega, by have := ob2.size; have h2 := SZ2.out; omega⟩
  have hl2 : w.heap.size < q2.heap.size := by omega
  have hm2 : w.heap.size + 1 < q2.heap.size := by omega
  have HN2 := Lib.hid (show ∀ b off s, e2 = some ⟨b, off, s⟩ → b ≠ w.heap.size ∧ b ≠ w.heap.size + 1 from fun b off s e => by have := hne2 b off s e; omega)
  have HR2 := Lib.hid (hv2.ob os2 (fun _ h => h) (fun b off s e => (HN2.out b off s e).1))
  have HR1 := Lib.hid ((HR1.out.ob ob2 (fun _ h => h) (fun b off s e => (HN1.out b off s e).1)).ob os2 (fun _ h => h) (fun b off s e => (HN1.out b off s e).1))
  have a2b : q2.cell? ⟨w.heap.size, 4, none⟩ = some (.slice ma mn mc) := cell_blk gq2 rfl
  have t2b : q2.frozen? ⟨w.heap.size, 4, none⟩ = false := fro_blk gq2 4
  clear ho2 hg2 ob2 hk2 hbb2 gq2 rq2 bq2 hne2 hv2 os2 a2 t2
  have hown3 := World.ownsRow_lit (base := w2.heap.size) (e := 45) (size := 3) w2 #[] 0 (Nat.le_refl _) (by unfold maxLen; omega) rfl
  have hve3 := (HO.out.kept (b2.alloc b2.size (.cells #[] 45)))
  have hsd3 : w2.heap.size ≤ (w2.alloc (.cells #[] 45)).heap.size := ((Below.refl w2.heap.size w2).alloc (Nat.le_refl _) _).size
  have a3 : w2.cell? ⟨w.heap.size, 5, none⟩ = some (.slice oa on oc) := cell_blk g2 rfl
  have t3 : w2.frozen? ⟨w.heap.size, 5, none⟩ = false := fro_blk g2 5
  have G3 := Lib.hid g2
  have R3 := Lib.hid r2
  have B3 := Lib.hid b2
  have SZ3 := Lib.hid s2
  rw [s2] at hown3 hsd3
  rw [hw2x] at hown3 hve3 hsd3 a3 t3
  have HWE3 := Lib.hid (show q2.setCell ⟨w.heap.size, 4, none⟩ (.slice e2 mn c2) = w2 from hw2x.symm)
  have HOW3 := Lib.hid hown3
  have HVE3 := Lib.hid hve3
  have HSD3 := Lib.hid hsd3
  clear hw2x s2 b2 g2 r2 hown3 hve3 hsd3
  go_wp2_with (at_builtin; refine wpList_append9O rfl (.tmp 13) (.tmp 15) rfl (q2.heap.size) _ 0 [] rfl HOW3.out _ _ _ _ rfl HVE3.out (by have := H63.out.2.2; omega) HSD3.out ?_)
  intro v3 q3 ho3 hg3
  try simp only [List.nil_append, Nat.zero_add] at ho3
  rw [HWE3.out] at hg3
  rw [← SZ3.out] at hg3
  obtain ⟨ob3, hk3, hbb3⟩ := step_row w.heap.size rfl hg3
  have gq3 := (hk3 w.heap.size (Array.getElem?_eq_some_iff.1 G3.out).1).trans G3.out
  have rq3 := (hk3 (w.heap.size + 1) (Array.getElem?_eq_some_iff.1 R3.out).1).trans R3.out
  have bq3 : Below w.heap.size w q3 := hbb3 w B3.out
  obtain ⟨e3, c3, rfl⟩ := own_slice9 ho3
  have hne3 := own_addr ho3
  have hv3 := VecAt.ofOwn (S := OwnS) ho3 HO.out.len (fun x hx => OwnS.mono bq3 (HO.out.all x hx))
  obtain ⟨w3, hw3x⟩ : ∃ w3, w3 = q3.setCell ⟨w.heap.size, 5, none⟩ (.slice e3 on c3) := ⟨_, rfl⟩
  have g3 : w3.heap[w.heap.size]? = some (.cells #[.int .i64 s, .int .i64 d, .int .i64 hz, .slice e1 en c1, .slice e2 mn c2, .slice e3 on c3] 26 (0, 0)) := by rw [hw3x]; exact heap_set gq3 5 _
  have r3 : w3.heap[w.heap.size + 1]? = some (.cells #[.int .i64 0, .int .i64 0, .int .i64 0, .slice none 0 0, .slice none 0 0, .slice none 0 0] 26 (0, 0)) := by rw [hw3x]; exact ((cells_set gq3 5 _).other (w.heap.size + 1) (by omega)).trans rq3
  have b3 : Below w.heap.size w w3 := by rw [hw3x]; exact bq3.setCell (p := ⟨w.heap.size, 5, none⟩) (Nat.le_refl _) _
  have s3 : w3.heap.size = q3.heap.size := by rw [hw3x]; simp
  have os3 : Ob w.heap.size q3 w3 := by rw [hw3x]; exact Ob.set gq3 _
  have hsz3 : w.heap.size + 1 < q2.heap.size ∧ q2.heap.size ≤ q3.heap.size := ⟨by have := hsz2; omega, by have := ob3.size; have h2 := SZ3.out; omega⟩
  have hl3 : w.heap.size < q3.heap.size := by omega
  have hm3 : w.heap.size + 1 < q3.heap.size := by omega
  have HN3 := Lib.hid (show ∀ b off s, e3 = some ⟨b, off, s⟩ → b ≠ w.heap.size ∧ b ≠ w.heap.size + 1 from fun b off s e => by have := hne3 b off s e; omega)
  have HR3 := Lib.hid (hv3.ob os3 (fun _ h => h) (fun b off s e => (HN3.out b off s e).1))
  have HR1 := Lib.hid ((HR1.out.ob ob3 (fun _ h => h) (fun b off s e => (HN1.out b off s e).1)).ob os3 (fun _ h => h) (fun b off s e => (HN1.out b off s e).1))
  have HR2 := Lib.hid ((HR2.out.ob ob3 (fun _ h => h) (fun b off s e => (HN2.out b off s e).1)).ob os3 (fun _ h => h) (fun b off s e => (HN2.out b off s e).1))
  have a3b : q3.cell? ⟨w.heap.size, 5, none⟩ = some (.slice oa on oc) := cell_blk gq3 rfl
  have t3b : q3.frozen? ⟨w.heap.size, 5, none⟩ = false := fro_blk gq3 5
  clear ho3 hg3 ob3 hk3 hbb3 gq3 rq3 bq3 hne3 hv3 os3 a3 t3
  have HRF := Lib.hid r3
  have HGF := Lib.hid g3
  have HBF := Lib.hid b3
  have z0 : w3.cell? ⟨w.heap.size, 0, none⟩ = some (.int .i64 s) := cell_blk g3 rfl
  have z1 : w3.cell? ⟨w.heap.size, 1, none⟩ = some (.int .i64 d) := cell_blk g3 rfl
  have z2 : w3.cell? ⟨w.heap.size, 2, none⟩ = some (.int .i64 hz) := cell_blk g3 rfl
  have z3 : w3.cell? ⟨w.heap.size, 3, none⟩ = some (.slice e1 en c1) := cell_blk g3 rfl
  have z4 : w3.cell? ⟨w.heap.size, 4, none⟩ = some (.slice e2 mn c2) := cell_blk g3 rfl
  have z5 : w3.cell? ⟨w.heap.size, 5, none⟩ = some (.slice e3 on c3) := cell_blk g3 rfl
  have y0 : w3.frozen? ⟨w.heap.size + 1, 0, none⟩ = false := fro_blk r3 0
  have y1 : w3.frozen? ⟨w.heap.size + 1, 1, none⟩ = false := fro_blk r3 1
  have y2 : w3.frozen? ⟨w.heap.size + 1, 2, none⟩ = false := fro_blk r3 2
  have y3 : w3.frozen? ⟨w.heap.size + 1, 3, none⟩ = false := fro_blk r3 3
  have y4 : w3.frozen? ⟨w.heap.size + 1, 4, none⟩ = false := fro_blk r3 4
  have y5 : w3.frozen? ⟨w.heap.size + 1, 5, none⟩ = false := fro_blk r3 5
  have x0 : w3.cell? ⟨w.heap.size + 1, 0, none⟩ = some (.int .i64 0) := cell_blk r3 rfl
  have x1 : w3.cell? ⟨w.heap.size + 1, 1, none⟩ = some (.int .i64 0) := cell_blk r3 rfl
  have x2 : w3.cell? ⟨w.heap.size + 1, 2, none⟩ = some (.int .i64 0) := cell_blk r3 rfl
  have x3 : w3.cell? ⟨w.heap.size + 1, 3, none⟩ = some (.slice none 0 0) := cell_blk r3 rfl
  have x4 : w3.cell? ⟨w.heap.size + 1, 4, none⟩ = some (.slice none 0 0) := cell_blk r3 rfl
  have x5 : w3.cell? ⟨w.heap.size + 1, 5, none⟩ = some (.slice none 0 0) := cell_blk r3 rfl
  rw [hw3x] at z0 z1 z2 z3 z4 z5 y0 y1 y2 y3 y4 y5 x0 x1 x2 x3 x4 x5
  have HW3 := Lib.hid hw3x.symm
  clear hw3x s3 b3 g3 r3
  go_wp2_with fail
  have hr9 := set6 HRF.out (.int .i64 s) (.int .i64 d) (.int .i64 hz) (.slice e1 en c1) (.slice e2 mn c2) (.slice e3 on c3)
  rw [HW3.out]
  refine bodyPost_ret (v := .agg #[.int .i64 s, .int .i64 d, .int .i64 hz, .slice e1 en c1, .slice e2 mn c2, .slice e3 on c3]) (by simp [results, Tryz.results8, go_sem, cell_blk hr9]) rfl ?_
  exact ⟨_, _, _, _, _, _, rfl, vec6o HR1.out (fun _ _ _ h => h) (fun b off s e => (HN1.out b off s e).2) _ _ _ _ _ _, vec6o HR2.out (fun _ _ _ h => h) (fun b off s e => (HN2.out b off s e).2) _ _ _ _ _ _, vec6o HR3.out (fun _ _ _ h => h) (fun b off s e => (HN3.out b off s e).2) _ _ _ _ _ _, below6 HBF.out (by omega) _ _ _ _ _ _⟩
end Go.Proofs.YtbdgcfimbblncaaGreatDoor
end PkMR4_1
section PkMR4_2
/- Manifests: reading entries, marks and owners by a cursor. Written by genmfd1.py. -/
namespace Go.Proofs.YtbdgcfimbblncaaGreatDoor
open Go.RowKit NumsPlain LabPlain
set_option linter.unusedVariables false

/-- a number up to m, a text of up to m bytes, read at a place (with an error, or none); the place behind -/
def rN (xs : List Nat) (m : Int) (s : Nat × Nat) : Nat := (ccn xs s.1 s.2 m 2).1
def sN (xs : List Nat) (m : Int) (s : Nat × Nat) : Nat × Nat := (ccn xs s.1 s.2 m 2).2
def rT (xs : List Nat) (m : Int) (s : Nat × Nat) : List Nat := (ct xs s.1 s.2 m).1
def sT (xs : List Nat) (m : Int) (s : Nat × Nat) : Nat × Nat := (ct xs s.1 s.2 m).2
def mkV (xs : List Nat) (m1 m2 : Int) (s : Nat × Nat) : Int × Int := ((rN xs m1 s : Int), (rN xs m2 (sN xs m1 s) : Int))
def mkS (xs : List Nat) (m1 m2 : Int) (s : Nat × Nat) : Nat × Nat := sN xs m2 (sN xs m1 s)
def owV (xs : List Nat) (m1 m2 : Int) (s : Nat × Nat) : Int × Int × Int := ((rN xs m1 s : Int), (rN xs m2 (sN xs m1 s) : Int), (rN xs m2 (sN xs m2 (sN xs m1 s)) : Int))
def owS (xs : List Nat) (m1 m2 : Int) (s : Nat × Nat) : Nat × Nat := sN xs m2 (sN xs m2 (sN xs m1 s))
def en3 (xs : List Nat) (mw : Int) (s : Nat × Nat) : Nat × Nat := sT xs 1024 (sN xs mw (sT xs 40 s))
def en5 (xs : List Nat) (mw : Int) (s : Nat × Nat) : Nat × Nat := sN xs mw (sN xs mw (en3 xs mw s))
def en7 (xs : List Nat) (mw mr mz : Int) (s : Nat × Nat) : Nat × Nat := sN xs mz (sN xs mr (en5 xs mw s))
def enV (xs : List Nat) (mw mr mz : Int) (s : Nat × Nat) : EntV := ⟨bs (rT xs 40 s), (rN xs mw (sT xs 40 s) : Int), bs (rT xs 1024 (sN xs mw (sT xs 40 s))), (rN xs mw (en3 xs mw s) : Int), (rN xs mw (sN xs mw (en3 xs mw s)) : Int), (rN xs mr (en5 xs mw s) : Int), (rN xs mz (sN xs mr (en5 xs mw s)) : Int), (rN xs 4294967295 (en7 xs mw mr mz s) : Int), (rN xs mw (sN xs 4294967295 (en7 xs mw mr mz s)) : Int)⟩
def enS (xs : List Nat) (mw mr mz : Int) (s : Nat × Nat) : Nat × Nat := sN xs mw (sN xs 4294967295 (en7 xs mw mr mz s))
theorem ccn_le {xs : List Nat} {i e : Nat} {m : Int} {a : Nat} (hm : 0 ≤ m) : ((ccn xs i e m a).1 : Int) ≤ m := by
  unfold ccn
  split
  · exact hm
  · split
    · exact hm
    · split
      · exact hm
      · omega
theorem gr_set {w w1 : World} {r : Option Nat} (h : w.grownBy w1 r) {X i : Nat} (hX : w.heap.size ≤ X) (u : Value) : w.grownBy (w1.setCell ⟨X, i, none⟩ u) r :=
  ⟨h.os, h.tape, h.output, by simpa using h.size, fun k hk hn => (Below.heap_setCell w1 ⟨X, i, none⟩ u k (by show k ≠ X; omega)).trans (h.block k hk hn)⟩
theorem gr_then {w w1 w2 : World} {B : Nat} {r : Option Nat} (h : w.grownBy w1 (some B)) (k : w1.grownBy w2 r) (hr : ∀ x, r = some x → x = B ∨ w.heap.size ≤ x) : w.grownBy w2 (some B) :=
  ⟨k.os.trans h.os, k.tape.trans h.tape, k.output.trans h.output, Nat.le_trans h.size k.size, fun i hi hn => by
    refine (k.block i (Nat.lt_of_lt_of_le hi h.size) (fun e => ?_)).trans (h.block i hi hn)
    rcases hr i e.symm with q | q
    · subst q; exact hn rfl
    · omega⟩
theorem gr_below {w w1 w2 : World} {r : Option Nat} (h : w.grownBy w1 r) (k : Below w1.heap.size w1 w2) : w.grownBy w2 r :=
  ⟨k.os.trans h.os, k.tape.trans h.tape, k.output.trans h.output, Nat.le_trans h.size k.size, fun i hi hn => (k.block i (Nat.lt_of_lt_of_le hi h.size)).trans (h.block i hi hn)⟩
theorem gr_ofBelow {w w1 : World} {r : Option Nat} (k : Below w.heap.size w w1) : w.grownBy w1 r := ⟨k.os, k.tape, k.output, k.size, fun i hi _ => k.block i hi⟩
/-- what a cursor stands on lies below N -/
def CurLow (N : Nat) (a : Option Addr) (n B : Nat) : Prop := B < N ∧ ∀ b off s, 0 < n → a = some ⟨b, off, s⟩ → b < N
theorem CurAt.lo {T : TypeId} {w : World} {B : Nat} {a : Option Addr} {n c : Nat} {xs : List Nat} {i e : Nat} (h : CurAt T w B a n c xs i e) : CurLow w.heap.size a n B :=
  ⟨h.lt, fun b off s hn ha => by
    obtain ⟨b2, off2, e2, hlt, _⟩ := h.src.cells hn
    rw [e2] at ha
    cases ha
    exact hlt⟩
theorem CurAt.low {T : TypeId} {w w' : World} {B N : Nat} {a : Option Addr} {n c : Nat} {xs : List Nat} {i e : Nat} (h : CurAt T w B a n c xs i e) (hl : CurLow N a n B) (hk : ∀ k, k < N → w'.heap[k]? = w.heap[k]?) (hs : w.heap.size ≤ w'.heap.size) : CurAt T w' B a n c xs i e :=
  ⟨(hk B hl.1).trans h.blk, ⟨h.src.len, h.src.cap, h.src.byte, h.src.reach, h.src.capm, h.src.nl, fun hn => by
    obtain ⟨b, off, ha, hlt, hc⟩ := h.src.cells hn
    have hb : w'.heap[b]? = w.heap[b]? := hk b (hl.2 b off none hn ha)
    exact ⟨b, off, ha, Nat.lt_of_lt_of_le hlt hs, fun i hi => (World.cell?_of_block (w := w) (a := ⟨b, _, none⟩) hb).trans (hc i hi)⟩⟩, h.apart, h.le⟩
theorem CurAt.set {T : TypeId} {w : World} {B N X j : Nat} {a : Option Addr} {n c : Nat} {xs : List Nat} {i e : Nat} (h : CurAt T w B a n c xs i e) (hl : CurLow N a n B) (hX : N ≤ X) (u : Value) : CurAt T (w.setCell ⟨X, j, none⟩ u) B a n c xs i e :=
  h.low hl (fun k hk => Below.heap_setCell w ⟨X, j, none⟩ u k (by show k ≠ X; omega)) (by simp)

set_option maxRecDepth 100000 in
set_option maxHeartbeats 2000000 in
theorem dmk_any {w : World} {B : Nat} {a : Option Addr} {n c : Nat} {xs : List Nat} {i e : Nat} (h : CurAt 123 w B a n c xs i e) :
    Calls Tryz.prog 54 #[.pointer (some ⟨B, 0, none⟩)] w fun r w' => r = .returned (.agg #[.int .i64 (mkV xs 64 1099511627776 (i, e)).1, .int .i64 (mkV xs 64 1099511627776 (i, e)).2]) ∧ CurAt 123 w' B a n c xs (mkS xs 64 1099511627776 (i, e)).1 (mkS xs 64 1099511627776 (i, e)).2 ∧ w.grownBy w' (some B) := by
  have hlo := h.lo
  obtain ⟨wa, hwa⟩ : ∃ wa, wa = w.alloc (.cells #[.int .i64 0, .int .i64 0] 43) := ⟨_, rfl⟩
  have ba : Below w.heap.size w wa := by rw [hwa]; exact (Below.refl _ _).alloc (Nat.le_refl _) _
  have ga : wa.heap[w.heap.size]? = some (.cells #[.int .i64 0, .int .i64 0] 43 (0, 0)) := by rw [hwa]; exact heap_alloc_new _ _
  have hc0 := h.keptB ba
  obtain ⟨t0, ht0⟩ : ∃ t, t = ccn xs i e 64 2 := ⟨_, rfl⟩
  obtain ⟨t1, ht1⟩ : ∃ t, t = ccn xs t0.2.1 t0.2.2 1099511627776 2 := ⟨_, rfl⟩
  have HV := Lib.hid (show mkV xs 64 1099511627776 (i, e) = ((t0.1 : Int), (t1.1 : Int)) ∧ mkS xs 64 1099511627776 (i, e) = t1.2 from by rw [ht1, ht0]; exact ⟨rfl, rfl⟩)
  have hN0 := cnum_any hc0 64 (by decide) (by decide)
  rw [← ht0] at hN0
  have HN0 := Lib.hid hN0
  have HLO := Lib.hid hlo
  have HGA := Lib.hid ga
  have HBA := Lib.hid ba
  have HWA := Lib.hid hwa
  have HT1 := Lib.hid ht1
  clear h hlo hwa ba ga hc0 hN0 ht0 ht1
  go_enter Tryz.func54, Tryz.ntmps54
  go_wp2_with fail
  rw [← HWA.out]
  refine HN0.out.mono ?_
  rintro r w0 ⟨rfl, hc0, hg0⟩
  have HC0 := Lib.hid hc0
  have HG0 := Lib.hid (gr_then (gr_ofBelow HBA.out) hg0 (fun x hx => .inl (by cases hx; rfl)))
  have HB0 := Lib.hid ((hg0.block w.heap.size (Array.getElem?_eq_some_iff.1 HGA.out).1 (by intro e9; cases e9; exact absurd HLO.out.1 (Nat.lt_irrefl _))).trans HGA.out)
  have hN1 := cnum_any hc0 1099511627776 (by decide) (by decide)
  rw [← HT1.out] at hN1
  have HN1 := Lib.hid hN1
  clear hc0 hg0 hN1
  go_wp2_with fail
  refine HN1.out.mono ?_
  rintro r w1 ⟨rfl, hc1, hg1⟩
  have HC1 := Lib.hid hc1
  have HG1 := Lib.hid (gr_then HG0.out hg1 (fun x hx => .inl (by cases hx; rfl)))
  have HB1 := Lib.hid ((hg1.block w.heap.size (Array.getElem?_eq_some_iff.1 HB0.out).1 (by intro e9; cases e9; exact absurd HLO.out.1 (Nat.lt_irrefl _))).trans HB0.out)
  clear hc1 hg1
  have x0 : w1.cell? ⟨w.heap.size, 0, none⟩ = some (.int .i64 0) := cell_blk HB1.out rfl
  have y0 : w1.frozen? ⟨w.heap.size, 0, none⟩ = false := fro_blk HB1.out 0
  have x1 : w1.cell? ⟨w.heap.size, 1, none⟩ = some (.int .i64 0) := cell_blk HB1.out rfl
  have y1 : w1.frozen? ⟨w.heap.size, 1, none⟩ = false := fro_blk HB1.out 1
  go_wp2_with fail
  have hr9 := setM HB1.out (t0.1 : Int) (t1.1 : Int)
  refine bodyPost_ret (v := .agg #[.int .i64 (t0.1 : Int), .int .i64 (t1.1 : Int)]) (by simp [results, Tryz.results54, go_sem, cell_blk hr9 (i := 0) rfl, cell_blk hr9 (i := 1) rfl]) rfl ?_
  rw [HV.out.1, HV.out.2]
  exact ⟨rfl, ((HC1.out.set HLO.out (Nat.le_refl _) _).set HLO.out (Nat.le_refl _) _), (gr_set (gr_set HG1.out (Nat.le_refl _) _) (Nat.le_refl _) _)⟩


set_option maxRecDepth 100000 in
set_option maxHeartbeats 2000000 in
theorem dow_any {w : World} {B : Nat} {a : Option Addr} {n c : Nat} {xs : List Nat} {i e : Nat} (h : CurAt 123 w B a n c xs i e) :
    Calls Tryz.prog 56 #[.pointer (some ⟨B, 0, none⟩)] w fun r w' => r = .returned (.agg #[.int .i64 (owV xs 8 1099511627776 (i, e)).1, .int .i64 (owV xs 8 1099511627776 (i, e)).2.1, .int .i64 (owV xs 8 1099511627776 (i, e)).2.2]) ∧ CurAt 123 w' B a n c xs (owS xs 8 1099511627776 (i, e)).1 (owS xs 8 1099511627776 (i, e)).2 ∧ w.grownBy w' (some B) := by
  have hlo := h.lo
  obtain ⟨wa, hwa⟩ : ∃ wa, wa = w.alloc (.cells #[.int .i64 0, .int .i64 0, .int .i64 0] 45) := ⟨_, rfl⟩
  have ba : Below w.heap.size w wa := by rw [hwa]; exact (Below.refl _ _).alloc (Nat.le_refl _) _
  have ga : wa.heap[w.heap.size]? = some (.cells #[.int .i64 0, .int .i64 0, .int .i64 0] 45 (0, 0)) := by rw [hwa]; exact heap_alloc_new _ _
  have hc0 := h.keptB ba
  obtain ⟨t0, ht0⟩ : ∃ t, t = ccn xs i e 8 2 := ⟨_, rfl⟩
  obtain ⟨t1, ht1⟩ : ∃ t, t = ccn xs t0.2.1 t0.2.2 1099511627776 2 := ⟨_, rfl⟩
  obtain ⟨t2, ht2⟩ : ∃ t, t = ccn xs t1.2.1 t1.2.2 1099511627776 2 := ⟨_, rfl⟩
  have HV := Lib.hid (show owV xs 8 1099511627776 (i, e) = ((t0.1 : Int), (t1.1 : Int), (t2.1 : Int)) ∧ owS xs 8 1099511627776 (i, e) = t2.2 from by rw [ht2, ht1, ht0]; exact ⟨rfl, rfl⟩)
  have hN0 := cnum_any hc0 8 (by decide) (by decide)
  rw [← ht0] at hN0
  have HN0 := Lib.hid hN0
  have HLO := Lib.hid hlo
  have HGA := Lib.hid ga
  have HBA := Lib.hid ba
  have HWA := Lib.hid hwa
  have HT1 := Lib.hid ht1
  have HT2 := Lib.hid ht2
  clear h hlo hwa ba ga hc0 hN0 ht0 ht1 ht2
  go_enter Tryz.func56, Tryz.ntmps56
  go_wp2_with fail
  rw [← HWA.out]
  refine HN0.out.mono ?_
  rintro r w0 ⟨rfl, hc0, hg0⟩
  have HC0 := Lib.hid hc0
  have HG0 := Lib.hid (gr_then (gr_ofBelow HBA.out) hg0 (fun x hx => .inl (by cases hx; rfl)))
  have HB0 := Lib.hid ((hg0.block w.heap.size (Array.getElem?_eq_some_iff.1 HGA.out).1 (by intro e9; cases e9; exact absurd HLO.out.1 (Nat.lt_irrefl _))).trans HGA.out)
  have hN1 := cnum_any hc0 1099511627776 (by decide) (by decide)
  rw [← HT1.out] at hN1
  have HN1 := Lib.hid hN1
  clear hc0 hg0 hN1
  go_wp2_with fail
  refine HN1.out.mono ?_
  rintro r w1 ⟨rfl, hc1, hg1⟩
  have HC1 := Lib.hid hc1
  have HG1 := Lib.hid (gr_then HG0.out hg1 (fun x hx => .inl (by cases hx; rfl)))
  have HB1 := Lib.hid ((hg1.block w.heap.size (Array.getElem?_eq_some_iff.1 HB0.out).1 (by intro e9; cases e9; exact absurd HLO.out.1 (Nat.lt_irrefl _))).trans HB0.out)
  have hN2 := cnum_any hc1 1099511627776 (by decide) (by decide)
  rw [← HT2.out] at hN2
  have HN2 := Lib.hid hN2
  clear hc1 hg1 hN2
  go_wp2_with fail
  refine HN2.out.mono ?_
  rintro r w2 ⟨rfl, hc2, hg2⟩
  have HC2 := Lib.hid hc2
  have HG2 := Lib.hid (gr_then HG1.out hg2 (fun x hx => .inl (by cases hx; rfl)))
  have HB2 := Lib.hid ((hg2.block w.heap.size (Array.getElem?_eq_some_iff.1 HB1.out).1 (by intro e9; cases e9; exact absurd HLO.out.1 (Nat.lt_irrefl _))).trans HB1.out)
  clear hc2 hg2
  have x0 : w2.cell? ⟨w.heap.size, 0, none⟩ = some (.int .i64 0) := cell_blk HB2.out rfl
  have y0 : w2.frozen? ⟨w.heap.size, 0, none⟩ = false := fro_blk HB2.out 0
  have x1 : w2.cell? ⟨w.heap.size, 1, none⟩ = some (.int .i64 0) := cell_blk HB2.out rfl
  have y1 : w2.frozen? ⟨w.heap.size, 1, none⟩ = false := fro_blk HB2.out 1
  have x2 : w2.cell? ⟨w.heap.size, 2, none⟩ = some (.int .i64 0) := cell_blk HB2.out rfl
  have y2 : w2.frozen? ⟨w.heap.size, 2, none⟩ = false := fro_blk HB2.out 2
  go_wp2_with fail
  have hr9 := setO HB2.out (t0.1 : Int) (t1.1 : Int) (t2.1 : Int)
  refine bodyPost_ret (v := .agg #[.int .i64 (t0.1 : Int), .int .i64 (t1.1 : Int), .int .i64 (t2.1 : Int)]) (by simp [results, Tryz.results56, go_sem, cell_blk hr9 (i := 0) rfl, cell_blk hr9 (i := 1) rfl, cell_blk hr9 (i := 2) rfl]) rfl ?_
  rw [HV.out.1, HV.out.2]
  exact ⟨rfl, (((HC2.out.set HLO.out (Nat.le_refl _) _).set HLO.out (Nat.le_refl _) _).set HLO.out (Nat.le_refl _) _), (gr_set (gr_set (gr_set HG2.out (Nat.le_refl _) _) (Nat.le_refl _) _) (Nat.le_refl _) _)⟩


set_option maxRecDepth 100000 in
set_option maxHeartbeats 8000000 in
theorem entry_any {w : World} {B : Nat} {a : Option Addr} {n c : Nat} {xs : List Nat} {i e : Nat} (h : CurAt 123 w B a n c xs i e) :
    Calls Tryz.prog 52 #[.pointer (some ⟨B, 0, none⟩)] w fun r w' => r = .returned (.agg (EntV.cells (enV xs 1099511627776 2048 262144 (i, e))).toArray) ∧ CurAt 123 w' B a n c xs (enS xs 1099511627776 2048 262144 (i, e)).1 (enS xs 1099511627776 2048 262144 (i, e)).2 ∧ w.grownBy w' (some B) := by
  have hlo := h.lo
  obtain ⟨wa, hwa⟩ : ∃ wa, wa = w.alloc (.cells #[.string { data := #[] }, .int .i64 0, .string { data := #[] }, .int .i64 0, .int .i64 0, .int .i64 0, .int .i64 0, .int .u32 0, .int .i64 0] 53) := ⟨_, rfl⟩
  have ba : Below w.heap.size w wa := by rw [hwa]; exact (Below.refl _ _).alloc (Nat.le_refl _) _
  have ga : wa.heap[w.heap.size]? = some (.cells #[.string { data := #[] }, .int .i64 0, .string { data := #[] }, .int .i64 0, .int .i64 0, .int .i64 0, .int .i64 0, .int .u32 0, .int .i64 0] 53 (0, 0)) := by rw [hwa]; exact heap_alloc_new _ _
  have hc0 := h.keptB ba
  obtain ⟨t0, ht0⟩ : ∃ t, t = ct xs i e 40 := ⟨_, rfl⟩
  obtain ⟨t1, ht1⟩ : ∃ t, t = ccn xs t0.2.1 t0.2.2 1099511627776 2 := ⟨_, rfl⟩
  obtain ⟨t2, ht2⟩ : ∃ t, t = ct xs t1.2.1 t1.2.2 1024 := ⟨_, rfl⟩
  obtain ⟨t3, ht3⟩ : ∃ t, t = ccn xs t2.2.1 t2.2.2 1099511627776 2 := ⟨_, rfl⟩
  obtain ⟨t4, ht4⟩ : ∃ t, t = ccn xs t3.2.1 t3.2.2 1099511627776 2 := ⟨_, rfl⟩
  obtain ⟨t5, ht5⟩ : ∃ t, t = ccn xs t4.2.1 t4.2.2 2048 2 := ⟨_, rfl⟩
  obtain ⟨t6, ht6⟩ : ∃ t, t = ccn xs t5.2.1 t5.2.2 262144 2 := ⟨_, rfl⟩
  obtain ⟨t7, ht7⟩ : ∃ t, t = ccn xs t6.2.1 t6.2.2 4294967295 2 := ⟨_, rfl⟩
  obtain ⟨t8, ht8⟩ : ∃ t, t = ccn xs t7.2.1 t7.2.2 1099511627776 2 := ⟨_, rfl⟩
  have HV := Lib.hid (show enV xs 1099511627776 2048 262144 (i, e) = ⟨bs t0.1, (t1.1 : Int), bs t2.1, (t3.1 : Int), (t4.1 : Int), (t5.1 : Int), (t6.1 : Int), (t7.1 : Int), (t8.1 : Int)⟩ ∧ enS xs 1099511627776 2048 262144 (i, e) = t8.2 from by rw [ht8, ht7, ht6, ht5, ht4, ht3, ht2, ht1, ht0]; exact ⟨rfl, rfl⟩)
  have HU := Lib.hid (show (t7.1 : Int) ≤ 4294967295 from by rw [ht7]; exact ccn_le (by decide))
  have hN0 := ct_any hc0 40 (by decide) (by decide)
  rw [← ht0] at hN0
  have HN0 := Lib.hid hN0
  have HLO := Lib.hid hlo
  have HGA := Lib.hid ga
  have HBA := Lib.hid ba
  have HWA := Lib.hid hwa
  have HT1 := Lib.hid ht1
  have HT2 := Lib.hid ht2
  have HT3 := Lib.hid ht3
  have HT4 := Lib.hid ht4
  have HT5 := Lib.hid ht5
  have HT6 := Lib.hid ht6
  have HT7 := Lib.hid ht7
  have HT8 := Lib.hid ht8
  clear h hlo hwa ba ga hc0 hN0 ht0 ht1 ht2 ht3 ht4 ht5 ht6 ht7 ht8
  go_enter Tryz.func52, Tryz.ntmps52
  go_wp2_with fail
  rw [← HWA.out]
  refine HN0.out.mono ?_
  rintro r w0 ⟨rfl, hc0, hg0⟩
  have HC0 := Lib.hid hc0
  have HG0 := Lib.hid (gr_then (gr_ofBelow HBA.out) hg0 (fun x hx => .inl (by cases hx; rfl)))
  have HR0 := Lib.hid ((hg0.block w.heap.size (Array.getElem?_eq_some_iff.1 HGA.out).1 (by intro e9; cases e9; exact absurd HLO.out.1 (Nat.lt_irrefl _))).trans HGA.out)
  have hN1 := cnum_any hc0 1099511627776 (by decide) (by decide)
  rw [← HT1.out] at hN1
  have HN1 := Lib.hid hN1
  clear hc0 hg0 hN1
  go_wp2_with fail
  refine HN1.out.mono ?_
  rintro r w1 ⟨rfl, hc1, hg1⟩
  have HC1 := Lib.hid hc1
  have HG1 := Lib.hid (gr_then HG0.out hg1 (fun x hx => .inl (by cases hx; rfl)))
  have HR1 := Lib.hid ((hg1.block w.heap.size (Array.getElem?_eq_some_iff.1 HR0.out).1 (by intro e9; cases e9; exact absurd HLO.out.1 (Nat.lt_irrefl _))).trans HR0.out)
  have hN2 := ct_any hc1 1024 (by decide) (by decide)
  rw [← HT2.out] at hN2
  have HN2 := Lib.hid hN2
  clear hc1 hg1 hN2
  go_wp2_with fail
  refine HN2.out.mono ?_
  rintro r w2 ⟨rfl, hc2, hg2⟩
  have HC2 := Lib.hid hc2
  have HG2 := Lib.hid (gr_then HG1.out hg2 (fun x hx => .inl (by cases hx; rfl)))
  have HR2 := Lib.hid ((hg2.block w.heap.size (Array.getElem?_eq_some_iff.1 HR1.out).1 (by intro e9; cases e9; exact absurd HLO.out.1 (Nat.lt_irrefl _))).trans HR1.out)
  obtain ⟨X, hX⟩ : ∃ X, X = w2.heap.size := ⟨_, rfl⟩
  obtain ⟨wx, hwx⟩ : ∃ wx, wx = w2.alloc (.cells #[.string (bs t0.1), .int .i64 (t1.1 : Int), .string (bs t2.1), .int .i64 0, .int .i64 0, .int .i64 0, .int .i64 0, .int .u32 0, .int .i64 0] 53) := ⟨_, rfl⟩
  have bx : Below w2.heap.size w2 wx := by rw [hwx]; exact (Below.refl _ _).alloc (Nat.le_refl _) _
  have HXX := Lib.hid (show wx.heap[X]? = some (.cells #[.string (bs t0.1), .int .i64 (t1.1 : Int), .string (bs t2.1), .int .i64 0, .int .i64 0, .int .i64 0, .int .i64 0, .int .u32 0, .int .i64 0] 53 (0, 0)) from by rw [hwx, hX]; exact heap_alloc_new _ _)
  have HXL := Lib.hid (show w.heap.size < X from by rw [hX]; have := (Array.getElem?_eq_some_iff.1 HR2.out).1; exact this)
  have HCX := Lib.hid (HC2.out.keptB bx)
  have HGX := Lib.hid (gr_below HG2.out bx)
  have HRX := Lib.hid ((bx.block w.heap.size (Array.getElem?_eq_some_iff.1 HR2.out).1).trans HR2.out)
  have hN3 := cnum_any HCX.out 1099511627776 (by decide) (by decide)
  rw [← HT3.out] at hN3
  have HN3 := Lib.hid hN3
  have HWX := Lib.hid hwx
  have HXE := Lib.hid hX
  clear hX hwx bx hc2 hg2 hN3
  go_wp2_with fail
  rw [← HWX.out, ← HXE.out]
  refine HN3.out.mono ?_
  rintro r w3 ⟨rfl, hc3, hg3⟩
  have HC3 := Lib.hid hc3
  have HG3 := Lib.hid (gr_then HGX.out hg3 (fun x hx => .inl (by cases hx; rfl)))
  have HR3 := Lib.hid ((hg3.block w.heap.size (Array.getElem?_eq_some_iff.1 HRX.out).1 (by intro e9; cases e9; exact absurd HLO.out.1 (Nat.lt_irrefl _))).trans HRX.out)
  have HX3 := Lib.hid ((hg3.block X (Array.getElem?_eq_some_iff.1 HXX.out).1 (by intro e9; cases e9; exact absurd HLO.out.1 (by have := HXL.out; omega))).trans HXX.out)
  have hN4 := cnum_any hc3 1099511627776 (by decide) (by decide)
  rw [← HT4.out] at hN4
  have HN4 := Lib.hid hN4
  clear hc3 hg3 hN4
  go_wp2_with fail
  refine HN4.out.mono ?_
  rintro r w4 ⟨rfl, hc4, hg4⟩
  have HC4 := Lib.hid hc4
  have HG4 := Lib.hid (gr_then HG3.out hg4 (fun x hx => .inl (by cases hx; rfl)))
  have HR4 := Lib.hid ((hg4.block w.heap.size (Array.getElem?_eq_some_iff.1 HR3.out).1 (by intro e9; cases e9; exact absurd HLO.out.1 (Nat.lt_irrefl _))).trans HR3.out)
  have HX4 := Lib.hid ((hg4.block X (Array.getElem?_eq_some_iff.1 HX3.out).1 (by intro e9; cases e9; exact absurd HLO.out.1 (by have := HXL.out; omega))).trans HX3.out)
  have x3 : w4.cell? ⟨X, 3, none⟩ = some (.int .i64 0) := cell_blk HX4.out rfl
  have y3 : w4.frozen? ⟨X, 3, none⟩ = false := fro_blk HX4.out 3
  have x4 : w4.cell? ⟨X, 4, none⟩ = some (.int .i64 0) := cell_blk HX4.out rfl
  have y4 : w4.frozen? ⟨X, 4, none⟩ = false := fro_blk HX4.out 4
  have HXS := Lib.hid (show ((w4.setCell ⟨X, 3, none⟩ (.int .i64 (t3.1 : Int))).setCell ⟨X, 4, none⟩ (.int .i64 (t4.1 : Int))).heap[X]? = some (.cells #[.string (bs t0.1), .int .i64 (t1.1 : Int), .string (bs t2.1), .int .i64 (t3.1 : Int), .int .i64 (t4.1 : Int), .int .i64 0, .int .i64 0, .int .u32 0, .int .i64 0] 53 (0, 0)) from heap_set (heap_set HX4.out 3 _) 4 _)
  have HCS := Lib.hid ((HC4.out.set (X := X) (j := 3) HLO.out (Nat.le_of_lt HXL.out) (.int .i64 (t3.1 : Int))).set (X := X) (j := 4) HLO.out (Nat.le_of_lt HXL.out) (.int .i64 (t4.1 : Int)))
  have HGS := Lib.hid (gr_set (gr_set HG4.out (X := X) (i := 3) (Nat.le_of_lt HXL.out) (.int .i64 (t3.1 : Int))) (X := X) (i := 4) (Nat.le_of_lt HXL.out) (.int .i64 (t4.1 : Int)))
  have HRS := Lib.hid (show ((w4.setCell ⟨X, 3, none⟩ (.int .i64 (t3.1 : Int))).setCell ⟨X, 4, none⟩ (.int .i64 (t4.1 : Int))).heap[w.heap.size]? = some (.cells #[.string { data := #[] }, .int .i64 0, .string { data := #[] }, .int .i64 0, .int .i64 0, .int .i64 0, .int .i64 0, .int .u32 0, .int .i64 0] 53 (0, 0)) from (Below.heap_setCell _ ⟨X, 4, none⟩ _ w.heap.size (by show w.heap.size ≠ X; have := HXL.out; omega)).trans ((Below.heap_setCell _ ⟨X, 3, none⟩ _ w.heap.size (by show w.heap.size ≠ X; have := HXL.out; omega)).trans HR4.out))
  have hN5 := cnum_any HCS.out 2048 (by decide) (by decide)
  rw [← HT5.out] at hN5
  have HN5 := Lib.hid hN5
  clear hc4 hg4 hN5
  go_wp2_with fail
  clear x3 y3 x4 y4
  refine HN5.out.mono ?_
  rintro r w5 ⟨rfl, hc5, hg5⟩
  have HC5 := Lib.hid hc5
  have HG5 := Lib.hid (gr_then HGS.out hg5 (fun x hx => .inl (by cases hx; rfl)))
  have HR5 := Lib.hid ((hg5.block w.heap.size (Array.getElem?_eq_some_iff.1 HRS.out).1 (by intro e9; cases e9; exact absurd HLO.out.1 (Nat.lt_irrefl _))).trans HRS.out)
  have HX5 := Lib.hid ((hg5.block X (Array.getElem?_eq_some_iff.1 HXS.out).1 (by intro e9; cases e9; exact absurd HLO.out.1 (by have := HXL.out; omega))).trans HXS.out)
  have hN6 := cnum_any hc5 262144 (by decide) (by decide)
  rw [← HT6.out] at hN6
  have HN6 := Lib.hid hN6
  clear hc5 hg5 hN6
  go_wp2_with fail
  refine HN6.out.mono ?_
  rintro r w6 ⟨rfl, hc6, hg6⟩
  have HC6 := Lib.hid hc6
  have HG6 := Lib.hid (gr_then HG5.out hg6 (fun x hx => .inl (by cases hx; rfl)))
  have HR6 := Lib.hid ((hg6.block w.heap.size (Array.getElem?_eq_some_iff.1 HR5.out).1 (by intro e9; cases e9; exact absurd HLO.out.1 (Nat.lt_irrefl _))).trans HR5.out)
  have HX6 := Lib.hid ((hg6.block X (Array.getElem?_eq_some_iff.1 HX5.out).1 (by intro e9; cases e9; exact absurd HLO.out.1 (by have := HXL.out; omega))).trans HX5.out)
  have x5 : w6.cell? ⟨X, 5, none⟩ = some (.int .i64 0) := cell_blk HX6.out rfl
  have y5 : w6.frozen? ⟨X, 5, none⟩ = false := fro_blk HX6.out 5
  have x6 : w6.cell? ⟨X, 6, none⟩ = some (.int .i64 0) := cell_blk HX6.out rfl
  have y6 : w6.frozen? ⟨X, 6, none⟩ = false := fro_blk HX6.out 6
  have HXS := Lib.hid (show ((w6.setCell ⟨X, 5, none⟩ (.int .i64 (t5.1 : Int))).setCell ⟨X, 6, none⟩ (.int .i64 (t6.1 : Int))).heap[X]? = some (.cells #[.string (bs t0.1), .int .i64 (t1.1 : Int), .string (bs t2.1), .int .i64 (t3.1 : Int), .int .i64 (t4.1 : Int), .int .i64 (t5.1 : Int), .int .i64 (t6.1 : Int), .int .u32 0, .int .i64 0] 53 (0, 0)) from heap_set (heap_set HX6.out 5 _) 6 _)
  have HCS := Lib.hid ((HC6.out.set (X := X) (j := 5) HLO.out (Nat.le_of_lt HXL.out) (.int .i64 (t5.1 : Int))).set (X := X) (j := 6) HLO.out (Nat.le_of_lt HXL.out) (.int .i64 (t6.1 : Int)))
  have HGS := Lib.hid (gr_set (gr_set HG6.out (X := X) (i := 5) (Nat.le_of_lt HXL.out) (.int .i64 (t5.1 : Int))) (X := X) (i := 6) (Nat.le_of_lt HXL.out) (.int .i64 (t6.1 : Int)))
  have HRS := Lib.hid (show ((w6.setCell ⟨X, 5, none⟩ (.int .i64 (t5.1 : Int))).setCell ⟨X, 6, none⟩ (.int .i64 (t6.1 : Int))).heap[w.heap.size]? = some (.cells #[.string { data := #[] }, .int .i64 0, .string { data := #[] }, .int .i64 0, .int .i64 0, .int .i64 0, .int .i64 0, .int .u32 0, .int .i64 0] 53 (0, 0)) from (Below.heap_setCell _ ⟨X, 6, none⟩ _ w.heap.size (by show w.heap.size ≠ X; have := HXL.out; omega)).trans ((Below.heap_setCell _ ⟨X, 5, none⟩ _ w.heap.size (by show w.heap.size ≠ X; have := HXL.out; omega)).trans HR6.out))
  have hN7 := cnum_any HCS.out 4294967295 (by decide) (by decide)
  rw [← HT7.out] at hN7
  have HN7 := Lib.hid hN7
  clear hc6 hg6 hN7
  go_wp2_with fail
  clear x5 y5 x6 y6
  refine HN7.out.mono ?_
  rintro r w7 ⟨rfl, hc7, hg7⟩
  have HC7 := Lib.hid hc7
  have HG7 := Lib.hid (gr_then HGS.out hg7 (fun x hx => .inl (by cases hx; rfl)))
  have HR7 := Lib.hid ((hg7.block w.heap.size (Array.getElem?_eq_some_iff.1 HRS.out).1 (by intro e9; cases e9; exact absurd HLO.out.1 (Nat.lt_irrefl _))).trans HRS.out)
  have HX7 := Lib.hid ((hg7.block X (Array.getElem?_eq_some_iff.1 HXS.out).1 (by intro e9; cases e9; exact absurd HLO.out.1 (by have := HXL.out; omega))).trans HXS.out)
  have hN8 := cnum_any hc7 1099511627776 (by decide) (by decide)
  rw [← HT8.out] at hN8
  have HN8 := Lib.hid hN8
  clear hc7 hg7 hN8
  go_wp2_with fail
  refine HN8.out.mono ?_
  rintro r w8 ⟨rfl, hc8, hg8⟩
  have HC8 := Lib.hid hc8
  have HG8 := Lib.hid (gr_then HG7.out hg8 (fun x hx => .inl (by cases hx; rfl)))
  have HR8 := Lib.hid ((hg8.block w.heap.size (Array.getElem?_eq_some_iff.1 HR7.out).1 (by intro e9; cases e9; exact absurd HLO.out.1 (Nat.lt_irrefl _))).trans HR7.out)
  have HX8 := Lib.hid ((hg8.block X (Array.getElem?_eq_some_iff.1 HX7.out).1 (by intro e9; cases e9; exact absurd HLO.out.1 (by have := HXL.out; omega))).trans HX7.out)
  have hw7 : (t7.1 : Int) % 4294967296 = (t7.1 : Int) := by have := HU.out; omega
  have x7 : w8.cell? ⟨X, 7, none⟩ = some (.int .u32 0) := cell_blk HX8.out rfl
  have y7 : w8.frozen? ⟨X, 7, none⟩ = false := fro_blk HX8.out 7
  have x8 : w8.cell? ⟨X, 8, none⟩ = some (.int .i64 0) := cell_blk HX8.out rfl
  have y8 : w8.frozen? ⟨X, 8, none⟩ = false := fro_blk HX8.out 8
  have HXS := Lib.hid (show ((w8.setCell ⟨X, 7, none⟩ (.int .u32 (t7.1 : Int))).setCell ⟨X, 8, none⟩ (.int .i64 (t8.1 : Int))).heap[X]? = some (.cells #[.string (bs t0.1), .int .i64 (t1.1 : Int), .string (bs t2.1), .int .i64 (t3.1 : Int), .int .i64 (t4.1 : Int), .int .i64 (t5.1 : Int), .int .i64 (t6.1 : Int), .int .u32 (t7.1 : Int), .int .i64 (t8.1 : Int)] 53 (0, 0)) from heap_set (heap_set HX8.out 7 _) 8 _)
  have HCS := Lib.hid ((HC8.out.set (X := X) (j := 7) HLO.out (Nat.le_of_lt HXL.out) (.int .u32 (t7.1 : Int))).set (X := X) (j := 8) HLO.out (Nat.le_of_lt HXL.out) (.int .i64 (t8.1 : Int)))
  have HGS := Lib.hid (gr_set (gr_set HG8.out (X := X) (i := 7) (Nat.le_of_lt HXL.out) (.int .u32 (t7.1 : Int))) (X := X) (i := 8) (Nat.le_of_lt HXL.out) (.int .i64 (t8.1 : Int)))
  have HRS := Lib.hid (show ((w8.setCell ⟨X, 7, none⟩ (.int .u32 (t7.1 : Int))).setCell ⟨X, 8, none⟩ (.int .i64 (t8.1 : Int))).heap[w.heap.size]? = some (.cells #[.string { data := #[] }, .int .i64 0, .string { data := #[] }, .int .i64 0, .int .i64 0, .int .i64 0, .int .i64 0, .int .u32 0, .int .i64 0] 53 (0, 0)) from (Below.heap_setCell _ ⟨X, 8, none⟩ _ w.heap.size (by show w.heap.size ≠ X; have := HXL.out; omega)).trans ((Below.heap_setCell _ ⟨X, 7, none⟩ _ w.heap.size (by show w.heap.size ≠ X; have := HXL.out; omega)).trans HR8.out))
  obtain ⟨wz, hwz⟩ : ∃ wz, wz = ((w8.setCell ⟨X, 7, none⟩ (.int .u32 (t7.1 : Int))).setCell ⟨X, 8, none⟩ (.int .i64 (t8.1 : Int))) := ⟨_, rfl⟩
  have hl9 : w.heap.size ≠ X := by have := HXL.out; omega
  rw [← hwz] at HXS HCS HGS HRS
  have z0 : wz.cell? ⟨X, 0, none⟩ = some (.string (bs t0.1)) := cell_blk HXS.out rfl
  have z1 : wz.cell? ⟨X, 1, none⟩ = some (.int .i64 (t1.1 : Int)) := cell_blk HXS.out rfl
  have z2 : wz.cell? ⟨X, 2, none⟩ = some (.string (bs t2.1)) := cell_blk HXS.out rfl
  have z3 : wz.cell? ⟨X, 3, none⟩ = some (.int .i64 (t3.1 : Int)) := cell_blk HXS.out rfl
  have z4 : wz.cell? ⟨X, 4, none⟩ = some (.int .i64 (t4.1 : Int)) := cell_blk HXS.out rfl
  have z5 : wz.cell? ⟨X, 5, none⟩ = some (.int .i64 (t5.1 : Int)) := cell_blk HXS.out rfl
  have z6 : wz.cell? ⟨X, 6, none⟩ = some (.int .i64 (t6.1 : Int)) := cell_blk HXS.out rfl
  have z7 : wz.cell? ⟨X, 7, none⟩ = some (.int .u32 (t7.1 : Int)) := cell_blk HXS.out rfl
  have z8 : wz.cell? ⟨X, 8, none⟩ = some (.int .i64 (t8.1 : Int)) := cell_blk HXS.out rfl
  have a0 : wz.cell? ⟨w.heap.size, 0, none⟩ = some (.string { data := #[] }) := cell_blk HRS.out rfl
  have b0 : wz.frozen? ⟨w.heap.size, 0, none⟩ = false := fro_blk HRS.out 0
  have a1 : wz.cell? ⟨w.heap.size, 1, none⟩ = some (.int .i64 0) := cell_blk HRS.out rfl
  have b1 : wz.frozen? ⟨w.heap.size, 1, none⟩ = false := fro_blk HRS.out 1
  have a2 : wz.cell? ⟨w.heap.size, 2, none⟩ = some (.string { data := #[] }) := cell_blk HRS.out rfl
  have b2 : wz.frozen? ⟨w.heap.size, 2, none⟩ = false := fro_blk HRS.out 2
  have a3 : wz.cell? ⟨w.heap.size, 3, none⟩ = some (.int .i64 0) := cell_blk HRS.out rfl
  have b3 : wz.frozen? ⟨w.heap.size, 3, none⟩ = false := fro_blk HRS.out 3
  have a4 : wz.cell? ⟨w.heap.size, 4, none⟩ = some (.int .i64 0) := cell_blk HRS.out rfl
  have b4 : wz.frozen? ⟨w.heap.size, 4, none⟩ = false := fro_blk HRS.out 4
  have a5 : wz.cell? ⟨w.heap.size, 5, none⟩ = some (.int .i64 0) := cell_blk HRS.out rfl
  have b5 : wz.frozen? ⟨w.heap.size, 5, none⟩ = false := fro_blk HRS.out 5
  have a6 : wz.cell? ⟨w.heap.size, 6, none⟩ = some (.int .i64 0) := cell_blk HRS.out rfl
  have b6 : wz.frozen? ⟨w.heap.size, 6, none⟩ = false := fro_blk HRS.out 6
  have a7 : wz.cell? ⟨w.heap.size, 7, none⟩ = some (.int .u32 0) := cell_blk HRS.out rfl
  have b7 : wz.frozen? ⟨w.heap.size, 7, none⟩ = false := fro_blk HRS.out 7
  have a8 : wz.cell? ⟨w.heap.size, 8, none⟩ = some (.int .i64 0) := cell_blk HRS.out rfl
  have b8 : wz.frozen? ⟨w.heap.size, 8, none⟩ = false := fro_blk HRS.out 8
  have HWZ := Lib.hid hwz
  rw [hwz] at z0 z1 z2 z3 z4 z5 z6 z7 z8 a0 a1 a2 a3 a4 a5 a6 a7 a8 b0 b1 b2 b3 b4 b5 b6 b7 b8
  clear hc8 hg8 hwz
  go_wp2_with fail
  rw [← HWZ.out]
  have hr9 := setE HRS.out (bs t0.1) (t1.1 : Int) (bs t2.1) (t3.1 : Int) (t4.1 : Int) (t5.1 : Int) (t6.1 : Int) (t7.1 : Int) (t8.1 : Int)
  refine bodyPost_ret (v := .agg #[.string (bs t0.1), .int .i64 (t1.1 : Int), .string (bs t2.1), .int .i64 (t3.1 : Int), .int .i64 (t4.1 : Int), .int .i64 (t5.1 : Int), .int .i64 (t6.1 : Int), .int .u32 (t7.1 : Int), .int .i64 (t8.1 : Int)]) (by simp [results, Tryz.results52, go_sem, cell_blk hr9 (i := 0) rfl, cell_blk hr9 (i := 1) rfl, cell_blk hr9 (i := 2) rfl, cell_blk hr9 (i := 3) rfl, cell_blk hr9 (i := 4) rfl, cell_blk hr9 (i := 5) rfl, cell_blk hr9 (i := 6) rfl, cell_blk hr9 (i := 7) rfl, cell_blk hr9 (i := 8) rfl]) rfl ?_
  rw [HV.out.1, HV.out.2]
  exact ⟨rfl, (((((((((HCS.out.set HLO.out (Nat.le_refl _) _).set HLO.out (Nat.le_refl _) _).set HLO.out (Nat.le_refl _) _).set HLO.out (Nat.le_refl _) _).set HLO.out (Nat.le_refl _) _).set HLO.out (Nat.le_refl _) _).set HLO.out (Nat.le_refl _) _).set HLO.out (Nat.le_refl _) _).set HLO.out (Nat.le_refl _) _), (gr_set (gr_set (gr_set (gr_set (gr_set (gr_set (gr_set (gr_set (gr_set HGS.out (Nat.le_refl _) _) (Nat.le_refl _) _) (Nat.le_refl _) _) (Nat.le_refl _) _) (Nat.le_refl _) _) (Nat.le_refl _) _) (Nat.le_refl _) _) (Nat.le_refl _) _) (Nat.le_refl _) _)⟩
end Go.Proofs.YtbdgcfimbblncaaGreatDoor
end PkMR4_2
section PkMR4_3
/- Manifests: reading lists of entries, marks and owners by a cursor. Written by genmfd2.py. -/
namespace Go.Proofs.YtbdgcfimbblncaaGreatDoor
open Go.RowKit NumsPlain LabPlain
set_option linter.unusedVariables false

/-- the place behind k things; the things -/
def stK (g : Nat × Nat → Nat × Nat) : Nat → Nat × Nat → Nat × Nat
  | 0, s => s
  | k + 1, s => g (stK g k s)
def vlK {α : Type} (v : Nat × Nat → α) (g : Nat × Nat → Nat × Nat) : Nat → Nat × Nat → List α
  | 0, _ => []
  | k + 1, s => vlK v g k s ++ [v (stK g k s)]
theorem vlK_len {α : Type} (v : Nat × Nat → α) (g : Nat × Nat → Nat × Nat) (s : Nat × Nat) : ∀ k, (vlK v g k s).length = k
  | 0 => rfl
  | k + 1 => by rw [vlK, List.length_append, vlK_len v g s k]; rfl
theorem cb_len (xs : List Nat) (i e : Nat) (k : Int) : (cb xs i e k).1.length ≤ xs.length := by
  unfold cb
  split
  · simp
  · split
    · simp
    · simp only [List.length_take, List.length_drop]; omega
theorem ct_len (xs : List Nat) (i e : Nat) (m : Int) : (ct xs i e m).1.length ≤ xs.length := by
  unfold ct
  split
  · simp
  · split
    · simp
    · exact cb_len _ _ _ _
theorem bs_size9 (l : List Nat) : (bs l).size = l.length := by
  show (bs l).data.size = _
  unfold bs
  rw [← Array.length_toList, strOfNums_data]
  simp
theorem enV_ok {xs : List Nat} {mw mr mz : Int} {s : Nat × Nat} (h : xs.length ≤ 140737488351232) : (enV xs mw mr mz s).key.size ≤ 140737488355328 ∧ (enV xs mw mr mz s).part.size ≤ 140737488355328 ∧ (0 ≤ (enV xs mw mr mz s).sum ∧ (enV xs mw mr mz s).sum ≤ 4294967295) := by
  refine ⟨?_, ?_, ?_, ?_⟩
  · show (bs (rT xs 40 s)).size ≤ _
    rw [bs_size9]
    have := ct_len xs s.1 s.2 40
    unfold rT; omega
  · show (bs (rT xs 1024 _)).size ≤ _
    rw [bs_size9]
    have := ct_len xs (sN xs mw (sT xs 40 s)).1 (sN xs mw (sT xs 40 s)).2 1024
    unfold rT; omega
  · exact Int.natCast_nonneg _
  · exact ccn_le (by decide)

set_option maxRecDepth 100000 in
set_option maxHeartbeats 4000000 in
theorem eachE_any {w : World} {B : Nat} {a : Option Addr} {n c : Nat} {xs : List Nat} {i e : Nat} (h : CurAt 123 w B a n c xs i e) :
    Calls Tryz.prog 51 #[.pointer (some ⟨B, 0, none⟩), .int .i64 256, .func (.func 52) #[] #[]] w fun r w' => ∃ a' c', r = .returned (.slice a' (rN xs 256 (i, e)) c') ∧ w'.ownsRow w.heap.size 53 9 (.slice a' (rN xs 256 (i, e)) c') (rN xs 256 (i, e)) (EntS.flat (vlK (fun s => enV xs 1099511627776 2048 262144 s) (fun s => enS xs 1099511627776 2048 262144 s) (rN xs 256 (i, e)) (sN xs 256 (i, e)))) ∧ CurAt 123 w' B a n c xs (stK (fun s => enS xs 1099511627776 2048 262144 s) (rN xs 256 (i, e)) (sN xs 256 (i, e))).1 (stK (fun s => enS xs 1099511627776 2048 262144 s) (rN xs 256 (i, e)) (sN xs 256 (i, e))).2 ∧ w.grownBy w' (some B) := by
  have hlo := h.lo
  have hreach : xs.length ≤ 140737488351232 := by rw [h.src.len]; exact h.src.reach
  obtain ⟨N, hN⟩ : ∃ N, N = rN xs 256 (i, e) := ⟨_, rfl⟩
  obtain ⟨s1, hs1⟩ : ∃ s1, s1 = sN xs 256 (i, e) := ⟨_, rfl⟩
  have hNm : (N : Int) ≤ 256 := by rw [hN]; exact ccn_le (by decide)
  obtain ⟨vv, hvv⟩ : ∃ vv, vv = (fun s => enV xs 1099511627776 2048 262144 s) := ⟨_, rfl⟩
  obtain ⟨gg, hgg⟩ : ∃ gg, gg = (fun s => enS xs 1099511627776 2048 262144 s) := ⟨_, rfl⟩
  have hcn := cnum_any h 256 (by decide) (by decide)
  have hcn2 : Calls Tryz.prog 50 #[.pointer (some ⟨B, 0, none⟩), .int .i64 256] w fun r w' => r = .returned (.int .i64 (N : Int)) ∧ CurAt 123 w' B a n c xs s1.1 s1.2 ∧ w.grownBy w' (some B) := by rw [hN, hs1]; exact hcn
  rw [← hN, ← hs1, ← hvv, ← hgg]
  have HON := Lib.hid (show ∀ (W : World) (st : Nat × Nat), CurAt 123 W B a n c xs st.1 st.2 → Calls Tryz.prog 52 #[.pointer (some ⟨B, 0, none⟩)] W fun r w' => r = .returned (.agg (EntS.f (vv st)).toArray) ∧ CurAt 123 w' B a n c xs (gg st).1 (gg st).2 ∧ W.grownBy w' (some B) from fun W st q => by rw [hvv, hgg]; exact entry_any q)
  have HOK := Lib.hid (show ∀ (W : World) st, EntS.ok W (vv st) from fun W st => by rw [hvv]; exact (enV_ok hreach))
  have HCN := Lib.hid hcn2
  have HLO := Lib.hid hlo
  clear h hlo hN hs1 hcn hcn2 hvv hgg hreach
  go_enter Tryz.func51, Tryz.ntmps51
  go_wp2_with fail
  refine HCN.out.mono ?_
  rintro r w1 ⟨rfl, hc1, hg1⟩
  have HC1 := Lib.hid (show CurAt 123 w1 B a n c xs (stK gg 0 s1).1 (stK gg 0 s1).2 from hc1)
  have HG1 := Lib.hid hg1
  have HO1 := Lib.hid (show w1.ownsRow w.heap.size 53 9 (.slice none 0 0) 0 (EntS.flat (vlK vv gg 0 s1)) from World.ownsRow_nil _ _ _ _)
  clear hc1 hg1
  go_wp2_with fail
  go_loopw [7, 11] (fun s7 s11 wr => ∃ (j c9 : Nat) (a9 : Option Addr), j ≤ N ∧ s11 = .int .i64 (j : Int) ∧ s7 = .slice a9 j c9 ∧ Hid (wr.ownsRow w.heap.size 53 9 (.slice a9 j c9) j (EntS.flat (vlK vv gg j s1))) ∧ Hid (CurAt 123 wr B a n c xs (stK gg j s1).1 (stK gg j s1).2) ∧ Hid (w.grownBy wr (some B))) (fun _ s11 _ => N - (intOf s11).toNat)
  case atStart => exact ⟨0, 0, none, by omega, rfl, rfl, HO1, HC1, HG1⟩
  case round =>
    clear HO1 HC1 HG1
    obtain ⟨j, c9, a9, hj, rfl, rfl, HO, HC, HG⟩ := hrel
    rename World => wr
    by_cases hjn : j < N
    · have hji : (j : Int) < (N : Int) := by omega
      have hj300 : j ≤ 300 := by omega
      obtain ⟨x, hx⟩ : ∃ x, x = vv (stK gg j s1) := ⟨_, rfl⟩
      have hok : ∀ W : World, EntS.ok W x := fun W => by rw [hx]; exact HOK.out W _
      have hcall := HON.out _ _ HC.out
      rw [← hx] at hcall
      have HX := Lib.hid hx
      obtain ⟨x0, x1, x2, x3, x4, x5, x6, x7, x8⟩ := x
      have HCALL := Lib.hid (show Calls Tryz.prog 52 #[.pointer (some ⟨B, 0, none⟩)] wr fun r w' => r = .returned (.agg #[.string x0, .int .i64 x1, .string x2, .int .i64 x3, .int .i64 x4, .int .i64 x5, .int .i64 x6, .int .u32 x7, .int .i64 x8]) ∧ CurAt 123 w' B a n c xs (stK gg (j + 1) s1).1 (stK gg (j + 1) s1).2 ∧ wr.grownBy w' (some B) from hcall)
      have HOKX := Lib.hid hok
      clear hx hcall hok
      go_wp2_with fail
      refine HCALL.out.mono ?_
      rintro r w2 ⟨rfl, hc2, hg2⟩
      have HG2 := Lib.hid (gr_then HG.out hg2 (fun y hy => .inl (by cases hy; rfl)))
      have ho2 : w2.ownsRow w.heap.size 53 9 (.slice a9 j c9) j (EntS.flat (vlK vv gg j s1)) := HO.out.kept hg2 (by
        cases e9 : (Value.slice a9 j c9).ownBlock with
        | none => exact .inl rfl
        | some k =>
          refine .inr (fun e => ?_)
          have h1 := (HO.out.lt k e9).1
          have h2 := HLO.out.1
          cases e
          omega)
      have hb3 : Below w2.heap.size w2 (w2.alloc (.cells #[.string x0, .int .i64 x1, .string x2, .int .i64 x3, .int .i64 x4, .int .i64 x5, .int .i64 x6, .int .u32 x7, .int .i64 x8] 53)) := (Below.refl _ _).alloc (Nat.le_refl _) _
      have HO3 := Lib.hid (ho2.alloc (.cells #[.string x0, .int .i64 x1, .string x2, .int .i64 x3, .int .i64 x4, .int .i64 x5, .int .i64 x6, .int .u32 x7, .int .i64 x8] 53))
      have HC3 := Lib.hid (hc2.keptB hb3)
      have HG3 := Lib.hid (gr_below HG2.out hb3)
      have HV3 := Lib.hid (VecAt.ofOwn (S := EntS) (l := [⟨x0, x1, x2, x3, x4, x5, x6, x7, x8⟩]) (World.ownsRow_lit (base := w2.heap.size) (e := 53) (size := 9) w2 #[.string x0, .int .i64 x1, .string x2, .int .i64 x3, .int .i64 x4, .int .i64 x5, .int .i64 x6, .int .u32 x7, .int .i64 x8] 1 (Nat.le_refl _) (by unfold maxLen; omega) rfl) rfl (fun y hy => by rw [List.mem_singleton.1 hy]; exact HOKX.out _))
      have HS3 := Lib.hid (show w.heap.size ≤ (w2.alloc (.cells #[.string x0, .int .i64 x1, .string x2, .int .i64 x3, .int .i64 x4, .int .i64 x5, .int .i64 x6, .int .u32 x7, .int .i64 x8] 53)).heap.size from HG3.out.size)
      clear hc2 hg2 ho2 hb3
      go_wp2_with (at_builtin; refine wpList_append9E rfl (.tmp 13) (.tmp 17) rfl w.heap.size _ j _ rfl HO3.out _ 1 1 [⟨x0, x1, x2, x3, x4, x5, x6, x7, x8⟩] rfl HV3.out (by omega) HS3.out ?_)
      intro v4 w4 ho4 hg4
      have hf : EntS.flat (vlK vv gg j s1 ++ [⟨x0, x1, x2, x3, x4, x5, x6, x7, x8⟩]) = EntS.flat (vlK vv gg (j + 1) s1) := by rw [vlK, HX.out]
      have ho4b : w4.ownsRow w.heap.size 53 9 v4 (j + 1) (EntS.flat (vlK vv gg (j + 1) s1)) := by rw [← hf]; exact ho4
      obtain ⟨a5, c5, rfl⟩ := own_slice9 ho4b
      have HO4 := Lib.hid ho4b
      have HG4 := Lib.hid (gr_then HG3.out hg4 (fun y hy => .inr (HO3.out.lt y hy).1))
      have HC4 := Lib.hid (HC3.out.low HLO.out (fun k hk => hg4.block k (Nat.lt_of_lt_of_le hk HS3.out) (fun e => by have := (HO3.out.lt k e.symm).1; omega)) hg4.size)
      clear ho4 ho4b hg4 hf
      go_wp2_with fail
      go_roundw
      case rel => exact ⟨j + 1, c5, a5, by omega, by go_num, rfl, HO4, HC4, HG4⟩
      case measure => simp [intOf]; omega
    · obtain rfl : N = j := by omega
      clear hjn
      go_wp2_with fail
      go_ret
      exact ⟨_, _, rfl, HO.out, HC.out, HG.out⟩

set_option maxRecDepth 100000 in
set_option maxHeartbeats 4000000 in
theorem eachM_any {w : World} {B : Nat} {a : Option Addr} {n c : Nat} {xs : List Nat} {i e : Nat} (h : CurAt 123 w B a n c xs i e) :
    Calls Tryz.prog 53 #[.pointer (some ⟨B, 0, none⟩), .int .i64 64, .func (.func 54) #[] #[]] w fun r w' => ∃ a' c', r = .returned (.slice a' (rN xs 64 (i, e)) c') ∧ w'.ownsRow w.heap.size 43 2 (.slice a' (rN xs 64 (i, e)) c') (rN xs 64 (i, e)) (MarkS.flat (vlK (fun s => mkV xs 64 1099511627776 s) (fun s => mkS xs 64 1099511627776 s) (rN xs 64 (i, e)) (sN xs 64 (i, e)))) ∧ CurAt 123 w' B a n c xs (stK (fun s => mkS xs 64 1099511627776 s) (rN xs 64 (i, e)) (sN xs 64 (i, e))).1 (stK (fun s => mkS xs 64 1099511627776 s) (rN xs 64 (i, e)) (sN xs 64 (i, e))).2 ∧ w.grownBy w' (some B) := by
  have hlo := h.lo
  have hreach : xs.length ≤ 140737488351232 := by rw [h.src.len]; exact h.src.reach
  obtain ⟨N, hN⟩ : ∃ N, N = rN xs 64 (i, e) := ⟨_, rfl⟩
  obtain ⟨s1, hs1⟩ : ∃ s1, s1 = sN xs 64 (i, e) := ⟨_, rfl⟩
  have hNm : (N : Int) ≤ 64 := by rw [hN]; exact ccn_le (by decide)
  obtain ⟨vv, hvv⟩ : ∃ vv, vv = (fun s => mkV xs 64 1099511627776 s) := ⟨_, rfl⟩
  obtain ⟨gg, hgg⟩ : ∃ gg, gg = (fun s => mkS xs 64 1099511627776 s) := ⟨_, rfl⟩
  have hcn := cnum_any h 64 (by decide) (by decide)
  have hcn2 : Calls Tryz.prog 50 #[.pointer (some ⟨B, 0, none⟩), .int .i64 64] w fun r w' => r = .returned (.int .i64 (N : Int)) ∧ CurAt 123 w' B a n c xs s1.1 s1.2 ∧ w.grownBy w' (some B) := by rw [hN, hs1]; exact hcn
  rw [← hN, ← hs1, ← hvv, ← hgg]
  have HON := Lib.hid (show ∀ (W : World) (st : Nat × Nat), CurAt 123 W B a n c xs st.1 st.2 → Calls Tryz.prog 54 #[.pointer (some ⟨B, 0, none⟩)] W fun r w' => r = .returned (.agg (MarkS.f (vv st)).toArray) ∧ CurAt 123 w' B a n c xs (gg st).1 (gg st).2 ∧ W.grownBy w' (some B) from fun W st q => by rw [hvv, hgg]; exact dmk_any q)
  have HOK := Lib.hid (show ∀ (W : World) st, MarkS.ok W (vv st) from fun W st => by rw [hvv]; exact trivial)
  have HCN := Lib.hid hcn2
  have HLO := Lib.hid hlo
  clear h hlo hN hs1 hcn hcn2 hvv hgg hreach
  go_enter Tryz.func53, Tryz.ntmps53
  go_wp2_with fail
  refine HCN.out.mono ?_
  rintro r w1 ⟨rfl, hc1, hg1⟩
  have HC1 := Lib.hid (show CurAt 123 w1 B a n c xs (stK gg 0 s1).1 (stK gg 0 s1).2 from hc1)
  have HG1 := Lib.hid hg1
  have HO1 := Lib.hid (show w1.ownsRow w.heap.size 43 2 (.slice none 0 0) 0 (MarkS.flat (vlK vv gg 0 s1)) from World.ownsRow_nil _ _ _ _)
  clear hc1 hg1
  go_wp2_with fail
  go_loopw [7, 11] (fun s7 s11 wr => ∃ (j c9 : Nat) (a9 : Option Addr), j ≤ N ∧ s11 = .int .i64 (j : Int) ∧ s7 = .slice a9 j c9 ∧ Hid (wr.ownsRow w.heap.size 43 2 (.slice a9 j c9) j (MarkS.flat (vlK vv gg j s1))) ∧ Hid (CurAt 123 wr B a n c xs (stK gg j s1).1 (stK gg j s1).2) ∧ Hid (w.grownBy wr (some B))) (fun _ s11 _ => N - (intOf s11).toNat)
  case atStart => exact ⟨0, 0, none, by omega, rfl, rfl, HO1, HC1, HG1⟩
  case round =>
    clear HO1 HC1 HG1
    obtain ⟨j, c9, a9, hj, rfl, rfl, HO, HC, HG⟩ := hrel
    rename World => wr
    by_cases hjn : j < N
    · have hji : (j : Int) < (N : Int) := by omega
      have hj300 : j ≤ 300 := by omega
      obtain ⟨x, hx⟩ : ∃ x, x = vv (stK gg j s1) := ⟨_, rfl⟩
      have hok : ∀ W : World, MarkS.ok W x := fun W => by rw [hx]; exact HOK.out W _
      have hcall := HON.out _ _ HC.out
      rw [← hx] at hcall
      have HX := Lib.hid hx
      obtain ⟨x0, x1⟩ := x
      have HCALL := Lib.hid (show Calls Tryz.prog 54 #[.pointer (some ⟨B, 0, none⟩)] wr fun r w' => r = .returned (.agg #[.int .i64 x0, .int .i64 x1]) ∧ CurAt 123 w' B a n c xs (stK gg (j + 1) s1).1 (stK gg (j + 1) s1).2 ∧ wr.grownBy w' (some B) from hcall)
      have HOKX := Lib.hid hok
      clear hx hcall hok
      go_wp2_with fail
      refine HCALL.out.mono ?_
      rintro r w2 ⟨rfl, hc2, hg2⟩
      have HG2 := Lib.hid (gr_then HG.out hg2 (fun y hy => .inl (by cases hy; rfl)))
      have ho2 : w2.ownsRow w.heap.size 43 2 (.slice a9 j c9) j (MarkS.flat (vlK vv gg j s1)) := HO.out.kept hg2 (by
        cases e9 : (Value.slice a9 j c9).ownBlock with
        | none => exact .inl rfl
        | some k =>
          refine .inr (fun e => ?_)
          have h1 := (HO.out.lt k e9).1
          have h2 := HLO.out.1
          cases e
          omega)
      have hb3 : Below w2.heap.size w2 (w2.alloc (.cells #[.int .i64 x0, .int .i64 x1] 43)) := (Below.refl _ _).alloc (Nat.le_refl _) _
      have HO3 := Lib.hid (ho2.alloc (.cells #[.int .i64 x0, .int .i64 x1] 43))
      have HC3 := Lib.hid (hc2.keptB hb3)
      have HG3 := Lib.hid (gr_below HG2.out hb3)
      have HV3 := Lib.hid (VecAt.ofOwn (S := MarkS) (l := [(x0, x1)]) (World.ownsRow_lit (base := w2.heap.size) (e := 43) (size := 2) w2 #[.int .i64 x0, .int .i64 x1] 1 (Nat.le_refl _) (by unfold maxLen; omega) rfl) rfl (fun y hy => by rw [List.mem_singleton.1 hy]; exact HOKX.out _))
      have HS3 := Lib.hid (show w.heap.size ≤ (w2.alloc (.cells #[.int .i64 x0, .int .i64 x1] 43)).heap.size from HG3.out.size)
      clear hc2 hg2 ho2 hb3
      go_wp2_with (at_builtin; refine wpList_append9M rfl (.tmp 13) (.tmp 17) rfl w.heap.size _ j _ rfl HO3.out _ 1 1 [(x0, x1)] rfl HV3.out (by omega) HS3.out ?_)
      intro v4 w4 ho4 hg4
      have hf : MarkS.flat (vlK vv gg j s1 ++ [(x0, x1)]) = MarkS.flat (vlK vv gg (j + 1) s1) := by rw [vlK, HX.out]
      have ho4b : w4.ownsRow w.heap.size 43 2 v4 (j + 1) (MarkS.flat (vlK vv gg (j + 1) s1)) := by rw [← hf]; exact ho4
      obtain ⟨a5, c5, rfl⟩ := own_slice9 ho4b
      have HO4 := Lib.hid ho4b
      have HG4 := Lib.hid (gr_then HG3.out hg4 (fun y hy => .inr (HO3.out.lt y hy).1))
      have HC4 := Lib.hid (HC3.out.low HLO.out (fun k hk => hg4.block k (Nat.lt_of_lt_of_le hk HS3.out) (fun e => by have := (HO3.out.lt k e.symm).1; omega)) hg4.size)
      clear ho4 ho4b hg4 hf
      go_wp2_with fail
      go_roundw
      case rel => exact ⟨j + 1, c5, a5, by omega, by go_num, rfl, HO4, HC4, HG4⟩
      case measure => simp [intOf]; omega
    · obtain rfl : N = j := by omega
      clear hjn
      go_wp2_with fail
      go_ret
      exact ⟨_, _, rfl, HO.out, HC.out, HG.out⟩

set_option maxRecDepth 100000 in
set_option maxHeartbeats 4000000 in
theorem eachO_any {w : World} {B : Nat} {a : Option Addr} {n c : Nat} {xs : List Nat} {i e : Nat} (h : CurAt 123 w B a n c xs i e) :
    Calls Tryz.prog 55 #[.pointer (some ⟨B, 0, none⟩), .int .i64 8, .func (.func 56) #[] #[]] w fun r w' => ∃ a' c', r = .returned (.slice a' (rN xs 8 (i, e)) c') ∧ w'.ownsRow w.heap.size 45 3 (.slice a' (rN xs 8 (i, e)) c') (rN xs 8 (i, e)) (OwnS.flat (vlK (fun s => owV xs 8 1099511627776 s) (fun s => owS xs 8 1099511627776 s) (rN xs 8 (i, e)) (sN xs 8 (i, e)))) ∧ CurAt 123 w' B a n c xs (stK (fun s => owS xs 8 1099511627776 s) (rN xs 8 (i, e)) (sN xs 8 (i, e))).1 (stK (fun s => owS xs 8 1099511627776 s) (rN xs 8 (i, e)) (sN xs 8 (i, e))).2 ∧ w.grownBy w' (some B) := by
  have hlo := h.lo
  have hreach : xs.length ≤ 140737488351232 := by rw [h.src.len]; exact h.src.reach
  obtain ⟨N, hN⟩ : ∃ N, N = rN xs 8 (i, e) := ⟨_, rfl⟩
  obtain ⟨s1, hs1⟩ : ∃ s1, s1 = sN xs 8 (i, e) := ⟨_, rfl⟩
  have hNm : (N : Int) ≤ 8 := by rw [hN]; exact ccn_le (by decide)
  obtain ⟨vv, hvv⟩ : ∃ vv, vv = (fun s => owV xs 8 1099511627776 s) := ⟨_, rfl⟩
  obtain ⟨gg, hgg⟩ : ∃ gg, gg = (fun s => owS xs 8 1099511627776 s) := ⟨_, rfl⟩
  have hcn := cnum_any h 8 (by decide) (by decide)
  have hcn2 : Calls Tryz.prog 50 #[.pointer (some ⟨B, 0, none⟩), .int .i64 8] w fun r w' => r = .returned (.int .i64 (N : Int)) ∧ CurAt 123 w' B a n c xs s1.1 s1.2 ∧ w.grownBy w' (some B) := by rw [hN, hs1]; exact hcn
  rw [← hN, ← hs1, ← hvv, ← hgg]
  have HON := Lib.hid (show ∀ (W : World) (st : Nat × Nat), CurAt 123 W B a n c xs st.1 st.2 → Calls Tryz.prog 56 #[.pointer (some ⟨B, 0, none⟩)] W fun r w' => r = .returned (.agg (OwnS.f (vv st)).toArray) ∧ CurAt 123 w' B a n c xs (gg st).1 (gg st).2 ∧ W.grownBy w' (some B) from fun W st q => by rw [hvv, hgg]; exact dow_any q)
  have HOK := Lib.hid (show ∀ (W : World) st, OwnS.ok W (vv st) from fun W st => by rw [hvv]; exact trivial)
  have HCN := Lib.hid hcn2
  have HLO := Lib.hid hlo
  clear h hlo hN hs1 hcn hcn2 hvv hgg hreach
  go_enter Tryz.func55, Tryz.ntmps55
  go_wp2_with fail
  refine HCN.out.mono ?_
  rintro r w1 ⟨rfl, hc1, hg1⟩
  have HC1 := Lib.hid (show CurAt 123 w1 B a n c xs (stK gg 0 s1).1 (stK gg 0 s1).2 from hc1)
  have HG1 := Lib.hid hg1
  have HO1 := Lib.hid (show w1.ownsRow w.heap.size 45 3 (.slice none 0 0) 0 (OwnS.flat (vlK vv gg 0 s1)) from World.ownsRow_nil _ _ _ _)
  clear hc1 hg1
  go_wp2_with fail
  go_loopw [7, 11] (fun s7 s11 wr => ∃ (j c9 : Nat) (a9 : Option Addr), j ≤ N ∧ s11 = .int .i64 (j : Int) ∧ s7 = .slice a9 j c9 ∧ Hid (wr.ownsRow w.heap.size 45 3 (.slice a9 j c9) j (OwnS.flat (vlK vv gg j s1))) ∧ Hid (CurAt 123 wr B a n c xs (stK gg j s1).1 (stK gg j s1).2) ∧ Hid (w.grownBy wr (some B))) (fun _ s11 _ => N - (intOf s11).toNat)
  case atStart => exact ⟨0, 0, none, by omega, rfl, rfl, HO1, HC1, HG1⟩
  case round =>
    clear HO1 HC1 HG1
    obtain ⟨j, c9, a9, hj, rfl, rfl, HO, HC, HG⟩ := hrel
    rename World => wr
    by_cases hjn : j < N
    · have hji : (j : Int) < (N : Int) := by omega
      have hj300 : j ≤ 300 := by omega
      obtain ⟨x, hx⟩ : ∃ x, x = vv (stK gg j s1) := ⟨_, rfl⟩
      have hok : ∀ W : World, OwnS.ok W x := fun W => by rw [hx]; exact HOK.out W _
      have hcall := HON.out _ _ HC.out
      rw [← hx] at hcall
      have HX := Lib.hid hx
      obtain ⟨x0, x1, x2⟩ := x
      have HCALL := Lib.hid (show Calls Tryz.prog 56 #[.pointer (some ⟨B, 0, none⟩)] wr fun r w' => r = .returned (.agg #[.int .i64 x0, .int .i64 x1, .int .i64 x2]) ∧ CurAt 123 w' B a n c xs (stK gg (j + 1) s1).1 (stK gg (j + 1) s1).2 ∧ wr.grownBy w' (some B) from hcall)
      have HOKX := Lib.hid hok
      clear hx hcall hok
      go_wp2_with fail
      refine HCALL.out.mono ?_
      rintro r w2 ⟨rfl, hc2, hg2⟩
      have HG2 := Lib.hid (gr_then HG.out hg2 (fun y hy => .inl (by cases hy; rfl)))
      have ho2 : w2.ownsRow w.heap.size 45 3 (.slice a9 j c9) j (OwnS.flat (vlK vv gg j s1)) := HO.out.kept hg2 (by
        cases e9 : (Value.slice a9 j c9).ownBlock with
        | none => exact .inl rfl
        | some k =>
          refine .inr (fun e => ?_)
          have h1 := (HO.out.lt k e9).1
          have h2 := HLO.out.1
          cases e
          omega)
      have hb3 : Below w2.heap.size w2 (w2.alloc (.cells #[.int .i64 x0, .int .i64 x1, .int .i64 x2] 45)) := (Below.refl _ _).alloc (Nat.le_refl _) _
      have HO3 := Lib.hid (ho2.alloc (.cells #[.int .i64 x0, .int .i64 x1, .int .i64 x2] 45))
      have HC3 := Lib.hid (hc2.keptB hb3)
      have HG3 := Lib.hid (gr_below HG2.out hb3)
      have HV3 := Lib.hid (VecAt.ofOwn (S := OwnS) (l := [(x0, x1, x2)]) (World.ownsRow_lit (base := w2.heap.size) (e := 45) (size := 3) w2 #[.int .i64 x0, .int .i64 x1, .int .i64 x2] 1 (Nat.le_refl _) (by unfold maxLen; omega) rfl) rfl (fun y hy => by rw [List.mem_singleton.1 hy]; exact HOKX.out _))
      have HS3 := Lib.hid (show w.heap.size ≤ (w2.alloc (.cells #[.int .i64 x0, .int .i64 x1, .int .i64 x2] 45)).heap.size from HG3.out.size)
      clear hc2 hg2 ho2 hb3
      go_wp2_with (at_builtin; refine wpList_append9O rfl (.tmp 13) (.tmp 17) rfl w.heap.size _ j _ rfl HO3.out _ 1 1 [(x0, x1, x2)] rfl HV3.out (by omega) HS3.out ?_)
      intro v4 w4 ho4 hg4
      have hf : OwnS.flat (vlK vv gg j s1 ++ [(x0, x1, x2)]) = OwnS.flat (vlK vv gg (j + 1) s1) := by rw [vlK, HX.out]
      have ho4b : w4.ownsRow w.heap.size 45 3 v4 (j + 1) (OwnS.flat (vlK vv gg (j + 1) s1)) := by rw [← hf]; exact ho4
      obtain ⟨a5, c5, rfl⟩ := own_slice9 ho4b
      have HO4 := Lib.hid ho4b
      have HG4 := Lib.hid (gr_then HG3.out hg4 (fun y hy => .inr (HO3.out.lt y hy).1))
      have HC4 := Lib.hid (HC3.out.low HLO.out (fun k hk => hg4.block k (Nat.lt_of_lt_of_le hk HS3.out) (fun e => by have := (HO3.out.lt k e.symm).1; omega)) hg4.size)
      clear ho4 ho4b hg4 hf
      go_wp2_with fail
      go_roundw
      case rel => exact ⟨j + 1, c5, a5, by omega, by go_num, rfl, HO4, HC4, HG4⟩
      case measure => simp [intOf]; omega
    · obtain rfl : N = j := by omega
      clear hjn
      go_wp2_with fail
      go_ret
      exact ⟨_, _, rfl, HO.out, HC.out, HG.out⟩
end Go.Proofs.YtbdgcfimbblncaaGreatDoor
end PkMR4_3
