/- A reply in memory: filled, and handed back. -/
import Derived.Test.YtjafagfhkpaciaaStoPl
import Derived.Laws.ResultCell
namespace Go.Proofs.Ytjafagfhkpaciaa
open Go.RowKit
set_option linter.unusedVariables false

/-- a reply's block filled cell by cell -/
def setR (w : World) (R : Nat) (x0 x1 x2 x3 x4 x5 x6 : Value) : World :=
  (((((((w.setCell ⟨R, 0, none⟩ x0).setCell ⟨R, 1, none⟩ x1).setCell ⟨R, 2, none⟩ x2).setCell ⟨R, 3, none⟩ x3).setCell ⟨R, 4, none⟩ x4).setCell ⟨R, 5, none⟩ x5).setCell ⟨R, 6, none⟩ x6)
theorem setR_at {w : World} {R : Nat} {y0 y1 y2 y3 y4 y5 y6 : Value} {t : TypeId} (g : w.heap[R]? = some (.cells #[y0, y1, y2, y3, y4, y5, y6] t (0, 0))) (x0 x1 x2 x3 x4 x5 x6 : Value) :
    (setR w R x0 x1 x2 x3 x4 x5 x6).heap[R]? = some (.cells #[x0, x1, x2, x3, x4, x5, x6] t (0, 0)) := by
  unfold setR
  have h0 := heap_setCell_same w R 0 _ _ x0 g
  have h1 := heap_setCell_same _ R 1 _ _ x1 h0
  have h2 := heap_setCell_same _ R 2 _ _ x2 h1
  have h3 := heap_setCell_same _ R 3 _ _ x3 h2
  have h4 := heap_setCell_same _ R 4 _ _ x4 h3
  have h5 := heap_setCell_same _ R 5 _ _ x5 h4
  have h6 := heap_setCell_same _ R 6 _ _ x6 h5
  rw [h6]
  rfl
theorem Frm.setR {F : Nat → Prop} {a b : World} (h : Frm F a b) {R : Nat} (hp : F R ∨ a.heap.size ≤ R) (x0 x1 x2 x3 x4 x5 x6 : Value) : Frm F a (setR b R x0 x1 x2 x3 x4 x5 x6) :=
  ((((((h.set hp 0 x0).set hp 1 x1).set hp 2 x2).set hp 3 x3).set hp 4 x4).set hp 5 x5).set hp 6 x6
theorem ret_cell {P : Program} {fn : Func} {p : Tmp} {ty : TypeId} (h : fn.results = #[.cell p ty]) (tmps : Array Value) (w : World) (g : Nat) (t : TypeId) (cs : Array Value) (fr : Nat × Nat) (d : TypeDesc)
    (hp : tmps.getD p undef = .pointer (some ⟨g, 0, none⟩)) (hg : w.heap[g]? = some (.cells cs t fr))
    (hu : P.underlying ty = some d) (hd : (match d with | .struct _ | .array _ _ => true | _ => false) = true) (hi : (P.info? ty).map (·.size) = some cs.size) :
    (results fn tmps).run P w = .ok (.agg cs) w := by
  have hp' : tmps[p]?.getD undef = .pointer (some ⟨g, 0, none⟩) := by simpa using hp
  simp [results, h, hp', asAddr, run_loadVar_row w g t ty cs fr d hg hu hd hi]
/-- a reply is handed back -/
theorem ret_rep {fn : Func} {p : Tmp} (h : fn.results = #[.cell p 35]) (tmps : Array Value) (w : World) (g : Nat) {e v b i : Int} {d l : Value} {m : Bool}
    (hp : tmps.getD p undef = .pointer (some ⟨g, 0, none⟩)) (hg : w.heap[g]? = some (.cells #[.int .i64 e, d, .int .i64 v, .int .i64 b, .int .i64 i, l, .bool m] 35 (0, 0))) :
    (results fn tmps).run Try.prog w = .ok (rep e d v b i l m) w :=
  ret_cell h tmps w g _ _ _ _ hp hg Try.underlying35 rfl (by kernel_rfl)
/-- a call's cells -/
def callV (ki : Int) (ky : ByteArray) (a : Option Addr) (n c : Nat) (vr at_ nn id : Int) : Array Value := #[.int .i64 ki, .string ky, .slice a n c, .int .i64 vr, .int .i64 at_, .int .i64 nn, .int .i64 id]
def zrep : Array Value := #[.int .i64 0, .slice none 0 0, .int .i64 0, .int .i64 0, .int .i64 0, .slice none 0 0, .bool false]
/-- a method's beginning: the call's box, the reply's -/
structure Ent (w W : World) (s Mo Mu : Nat) (σ : Sto) (cs : Array Value) : Prop where
  st : StAt W s Mo Mu σ
  cb : W.heap[w.heap.size]? = some (.cells cs 29 (0, 0))
  rb : W.heap[w.heap.size + 1]? = some (.cells zrep 35 (0, 0))
  sz : W.heap.size = w.heap.size + 2
  bel : Below w.heap.size w W
theorem ent_mk {w : World} {s Mo Mu : Nat} {σ : Sto} (h : StAt w s Mo Mu σ) (cs : Array Value) : Ent w ((w.alloc (.cells cs 29)).alloc (.cells zrep 35)) s Mo Mu σ cs := by
  have h1 : Below w.heap.size w ((w.alloc (.cells cs 29)).alloc (.cells zrep 35)) := ((Below.refl _ _).alloc (Nat.le_refl _) _).alloc (by simp) _
  have e1 : (w.alloc (.cells cs 29)).heap.size = w.heap.size + 1 := by simp
  refine ⟨h.below h1, ?_, ?_, by simp, h1⟩
  · exact (Below.heap_alloc _ _ _ (by rw [e1]; omega)).trans (heap_new w _)
  · have := heap_new (w.alloc (.cells cs 29)) (.cells zrep 35)
    rwa [e1] at this
theorem rb_cells {w : World} {R : Nat} (g : w.heap[R]? = some (.cells zrep 35 (0, 0))) :
    (w.cell? ⟨R, 0, none⟩ = some (.int .i64 0) ∧ w.cell? ⟨R, 1, none⟩ = some (.slice none 0 0) ∧ w.cell? ⟨R, 2, none⟩ = some (.int .i64 0) ∧ w.cell? ⟨R, 3, none⟩ = some (.int .i64 0) ∧ w.cell? ⟨R, 4, none⟩ = some (.int .i64 0) ∧ w.cell? ⟨R, 5, none⟩ = some (.slice none 0 0) ∧ w.cell? ⟨R, 6, none⟩ = some (.bool false)) ∧
    w.frozen? ⟨R, 0, none⟩ = false ∧ w.frozen? ⟨R, 1, none⟩ = false ∧ w.frozen? ⟨R, 2, none⟩ = false ∧ w.frozen? ⟨R, 3, none⟩ = false ∧ w.frozen? ⟨R, 4, none⟩ = false ∧ w.frozen? ⟨R, 5, none⟩ = false ∧ w.frozen? ⟨R, 6, none⟩ = false :=
  ⟨⟨cell_blk2 g rfl, cell_blk2 g rfl, cell_blk2 g rfl, cell_blk2 g rfl, cell_blk2 g rfl, cell_blk2 g rfl, cell_blk2 g rfl⟩, fro_blk2 g 0, fro_blk2 g 1, fro_blk2 g 2, fro_blk2 g 3, fro_blk2 g 4, fro_blk2 g 5, fro_blk2 g 6⟩
theorem setR_at0 {w : World} {R : Nat} (g : w.heap[R]? = some (.cells zrep 35 (0, 0))) (x0 x1 x2 x3 x4 x5 x6 : Value) :
    (setR w R x0 x1 x2 x3 x4 x5 x6).heap[R]? = some (.cells #[x0, x1, x2, x3, x4, x5, x6] 35 (0, 0)) := setR_at g x0 x1 x2 x3 x4 x5 x6
/-- a method ends with a reply that was laid into its box: nothing below turned but the box -/
theorem ret_set {fn : Func} {p : Tmp} (h : fn.results = #[.cell p 35]) (tmps : Array Value) {w0 w : World} {R : Nat} (g : w.heap[R]? = some (.cells zrep 35 (0, 0))) (hp : tmps.getD p undef = .pointer (some ⟨R, 0, none⟩)) (e v b i : Int) (d l : Value) (m : Bool) :
    (results fn tmps).run Try.prog (setR w R (.int .i64 e) d (.int .i64 v) (.int .i64 b) (.int .i64 i) l (.bool m)) = .ok (rep e d v b i l m) (setR w R (.int .i64 e) d (.int .i64 v) (.int .i64 b) (.int .i64 i) l (.bool m)) :=
  ret_rep h tmps _ R hp (setR_at0 g _ _ _ _ _ _ _)
/-- under way: the call's box, the reply's, and one more -/
structure Md (w W : World) (s Mo Mu : Nat) (σ : Sto) (cs : Array Value) (box : Array Value) (bt : TypeId) : Prop where
  st : StAt W s Mo Mu σ
  cb : W.heap[w.heap.size]? = some (.cells cs 29 (0, 0))
  rb : W.heap[w.heap.size + 1]? = some (.cells zrep 35 (0, 0))
  ob : W.heap[w.heap.size + 2]? = some (.cells box bt (0, 0))
  bel : Below w.heap.size w W
theorem md_mk {w W : World} {s Mo Mu : Nat} {σ : Sto} {cs : Array Value} (h : Ent w W s Mo Mu σ cs) (box : Array Value) (bt : TypeId) : Md w (W.alloc (.cells box bt)).drew s Mo Mu σ cs box bt := by
  have hb : Below W.heap.size W (W.alloc (.cells box bt)).drew := ((Below.refl _ _).alloc (Nat.le_refl _) _).drew
  refine ⟨h.st.below hb, (hb.block _ (by have := h.sz; omega)).trans h.cb, (hb.block _ (by have := h.sz; omega)).trans h.rb, ?_, h.bel.trans (hb.mono h.bel.size)⟩
  have := heap_new W (.cells box bt)
  rw [h.sz] at this
  exact this
theorem Md.kept {w W W' : World} {s Mo Mu : Nat} {σ : Sto} {cs box : Array Value} {bt : TypeId} (h : Md w W s Mo Mu σ cs box bt) (hb : Below W.heap.size W W') : Md w W' s Mo Mu σ cs box bt :=
  ⟨h.st.below hb, (hb.block _ (Array.getElem?_eq_some_iff.1 h.cb).1).trans h.cb, (hb.block _ (Array.getElem?_eq_some_iff.1 h.rb).1).trans h.rb, (hb.block _ (Array.getElem?_eq_some_iff.1 h.ob).1).trans h.ob, h.bel.trans (hb.mono h.bel.size)⟩
/-- a method's end: the reply's box was filled -/
theorem Md.done {w W : World} {s Mo Mu : Nat} {σ : Sto} {cs box : Array Value} {bt : TypeId} (h : Md w W s Mo Mu σ cs box bt) (hs : s < w.heap.size) (hF : ∀ b, StF s Mo Mu σ b → b < w.heap.size) (x0 x1 x2 x3 x4 x5 x6 : Value) :
    StAt (setR W (w.heap.size + 1) x0 x1 x2 x3 x4 x5 x6) s Mo Mu σ ∧ Below w.heap.size w (setR W (w.heap.size + 1) x0 x1 x2 x3 x4 x5 x6) := by
  have h1 : Frm (fun b => b = w.heap.size + 1) W (setR W (w.heap.size + 1) x0 x1 x2 x3 x4 x5 x6) := (Frm.refl (fun b => b = w.heap.size + 1) W).setR (R := w.heap.size + 1) (.inl rfl) _ _ _ _ _ _ _
  refine ⟨h.st.same fun b hb => h1.block b (h.st.lt hb) (fun e => by have := hF b hb; omega), ?_⟩
  exact ⟨h1.os.trans h.bel.os, h1.tape.trans h.bel.tape, h1.output.trans h.bel.output, Nat.le_trans h.bel.size h1.size, fun i hi => (h1.block i (Nat.lt_of_lt_of_le hi h.bel.size) (by omega)).trans (h.bel.block i hi)⟩
end Go.Proofs.Ytjafagfhkpaciaa
