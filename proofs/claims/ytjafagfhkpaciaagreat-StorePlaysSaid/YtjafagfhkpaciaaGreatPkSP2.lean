/- Texts put together by packtpl2.py: SdQ, StoRep, SdPut, StoKey, SdK, SdB, SdU, SdW, SdPrt, SdCom, SdV, SdX. -/
import Derived.Test.YtjafagfhkpaciaaGreatPkSP1
import Derived.Laws.ResultCell
import Derived.Deep.RegionLaw
import Derived.BigRegion
import Derived.Deep.QuietTactic
import Derived.BigQuiet
section PkSP2_0
/- The document's store: its rows, as blocks; its put, plainly. -/
namespace Go.Proofs.YtjafagfhkpaciaaGreat
open Go.RowKit
set_option linter.unusedVariables false

theorem DStAt.orow_parts {w : World} {S base : Nat} {σ : DSto} (h : DStAt w S base σ) (hp : 0 < σ.objs.length) : ∃ g cur, σ.oa = some ⟨g, 0, none⟩ ∧ base ≤ g ∧ w.heap[g]? = some (.cells cur 59 (0, 0)) ∧ σ.objs.length * 4 ≤ cur.size := by
  rcases h.orow.2 with ⟨_, h0⟩ | ⟨g, cap, cur, h1, h2, h3, h4, h5, h6, h7⟩
  · omega
  · have e := Value.slice.inj h1
    refine ⟨g, cur, e.1, h2, h3, ?_⟩
    rw [h6]
    exact Nat.mul_le_mul_right _ h4
theorem DStAt.urow_parts {w : World} {S base : Nat} {σ : DSto} (h : DStAt w S base σ) (hp : 0 < σ.ups.length) : ∃ g cur, σ.ua = some ⟨g, 0, none⟩ ∧ base ≤ g ∧ w.heap[g]? = some (.cells cur 65 (0, 0)) ∧ σ.ups.length * 4 ≤ cur.size := by
  rcases h.urow.2 with ⟨_, h0⟩ | ⟨g, cap, cur, h1, h2, h3, h4, h5, h6, h7⟩
  · omega
  · have e := Value.slice.inj h1
    refine ⟨g, cur, e.1, h2, h3, ?_⟩
    rw [h6]
    exact Nat.mul_le_mul_right _ h4
theorem DStAt.obj_cells {w : World} {S base : Nat} {σ : DSto} (h : DStAt w S base σ) {g : Nat} (hg : σ.oa = some ⟨g, 0, none⟩) {i : Nat} (hi : i < σ.objs.length) : (∃ q, w.cell? ⟨g, i * 4, none⟩ = some (.string q)) ∧ (∃ a d c, w.cell? ⟨g, i * 4 + 1, none⟩ = some (.slice a d c)) ∧ (∃ z, w.cell? ⟨g, i * 4 + 2, none⟩ = some (.int .i64 z)) ∧ (∃ z, w.cell? ⟨g, i * 4 + 3, none⟩ = some (.int .i64 z)) := by
  obtain ⟨b, off, ha, _, _, hc⟩ := h.objs.get hi
  rw [hg] at ha
  cases ha
  have h0 := hc 0 _ rfl
  have h1 := hc 1 _ rfl
  have h2 := hc 2 _ rfl
  have h3 := hc 3 _ rfl
  rw [Nat.zero_add] at h0 h1 h2 h3
  exact ⟨⟨_, h0⟩, ⟨_, _, _, h1⟩, ⟨_, h2⟩, ⟨_, h3⟩⟩
theorem DStAt.upl_cells {w : World} {S base : Nat} {σ : DSto} (h : DStAt w S base σ) {g : Nat} (hg : σ.ua = some ⟨g, 0, none⟩) {i : Nat} (hi : i < σ.ups.length) : (∃ q, w.cell? ⟨g, i * 4, none⟩ = some (.int .i64 q)) ∧ (∃ z, w.cell? ⟨g, i * 4 + 1, none⟩ = some (.int .i64 z)) ∧ (∃ z, w.cell? ⟨g, i * 4 + 2, none⟩ = some (.string z)) ∧ (∃ a d c, w.cell? ⟨g, i * 4 + 3, none⟩ = some (.slice a d c)) := by
  obtain ⟨b, off, ha, _, _, hc⟩ := h.ups.get hi
  rw [hg] at ha
  cases ha
  have h0 := hc 0 _ rfl
  have h1 := hc 1 _ rfl
  have h2 := hc 2 _ rfl
  have h3 := hc 3 _ rfl
  rw [Nat.zero_add] at h0 h1 h2 h3
  exact ⟨⟨_, h0⟩, ⟨_, h1⟩, ⟨_, h2⟩, ⟨_, _, _, h3⟩⟩
/-- a key is below -/
def ltK (a b : ByteArray) : Bool := Op.bytesLess a.toList b.toList
/-- an object put -/
def putL (l : List DObj) (o : DObj) : List DObj := match l.findIdx? (fun x => decide (x.key = o.key)) with
  | some i => l.set i o
  | none => l.takeWhile (fun x => ltK x.key o.key) ++ [o] ++ l.dropWhile (fun x => ltK x.key o.key)
/-- the blocks that a put turns -/
def DFo (S : Nat) (σ : DSto) (b : Nat) : Prop := b = S ∨ blkOf σ.oa = some b
/-- what comes of a put -/
def PutP (w : World) (S base : Nat) (σ : DSto) (k : ByteArray) (dn : Nat) (data : List Nat) (w' : World) : Prop :=
  ∃ oa oc da dc, DStAt w' S base { σ with oa := oa, oc := oc, objs := putL σ.objs ⟨k, da, dn, dc, data, σ.ver + 1, σ.now⟩, ver := σ.ver + 1 } ∧ Frm (DFo S σ) w w' ∧ (∀ b, blkOf da = some b → w.heap.size ≤ b)
theorem take_drop_while {α : Type} (p : α → Bool) : ∀ (l : List α) (n : Nat), n ≤ l.length → (∀ j x, j < n → l[j]? = some x → p x = true) → (∀ x, l[n]? = some x → p x = false) → l.take n = l.takeWhile p ∧ l.drop n = l.dropWhile p
  | [], n, h, _, _ => by simp at h; subst h; exact ⟨rfl, rfl⟩
  | a :: r, 0, _, _, h2 => by
    have := h2 a rfl
    rw [List.takeWhile_cons, List.dropWhile_cons, this]
    exact ⟨rfl, rfl⟩
  | a :: r, n + 1, h, h1, h2 => by
    have h0 := h1 0 a (by omega) rfl
    obtain ⟨e1, e2⟩ := take_drop_while p r n (by simpa using h) (fun j x hj hx => h1 (j + 1) x (by omega) (by simpa using hx)) (fun x hx => h2 x (by simpa using hx))
    rw [List.takeWhile_cons, List.dropWhile_cons, h0, List.take_succ_cons, List.drop_succ_cons, e1, e2]
    exact ⟨rfl, rfl⟩
/-- the types of a store's blocks -/
def isD (t : TypeId) : Prop := t = 29 ∨ t = 59 ∨ t = 65 ∨ t = 98 ∨ t = 5
theorem own_blk_ty {w : World} {base n c N k : Nat} {e : TypeId} {a : Option Addr} {xs : List Value} (h : w.ownsRow base e k (.slice a n c) N xs) {b : Nat} (hb : blkOf a = some b) : ∃ cur, w.heap[b]? = some (.cells cur e (0, 0)) := by
  rcases h.2 with ⟨h0, _⟩ | ⟨q, cap, cur, h1, _, h3, _⟩
  · cases h0; cases hb
  · cases h1
    cases hb
    exact ⟨cur, h3⟩
theorem DStAt.ty {w : World} {S base : Nat} {σ : DSto} (h : DStAt w S base σ) {b : Nat} (hb : DF S σ b) : ∃ cs t, w.heap[b]? = some (.cells cs t (0, 0)) ∧ isD t := by
  rcases hb with rfl | e | e | ⟨o, ho, e⟩ | ⟨u, hu, e | ⟨p, hp, e⟩⟩
  · exact ⟨_, _, h.blk, .inl rfl⟩
  · obtain ⟨cur, g⟩ := own_blk_ty h.orow e; exact ⟨_, _, g, .inr (.inl rfl)⟩
  · obtain ⟨cur, g⟩ := own_blk_ty h.urow e; exact ⟨_, _, g, .inr (.inr (.inl rfl))⟩
  · obtain ⟨cur, g⟩ := own_blk_ty (h.obj o ho).row e; exact ⟨_, _, g, .inr (.inr (.inr (.inr rfl)))⟩
  · obtain ⟨cur, g⟩ := own_blk_ty (h.upl u hu).row e; exact ⟨_, _, g, .inr (.inr (.inr (.inl rfl)))⟩
  · obtain ⟨cur, g⟩ := own_blk_ty ((h.upl u hu).prt p hp).row e; exact ⟨_, _, g, .inr (.inr (.inr (.inr rfl)))⟩
theorem rep_notD : ¬ isD 43 := by unfold isD; decide
theorem DStAt.frmT {w w' : World} {S base : Nat} {σ : DSto} (h : DStAt w S base σ) {R : Nat} {cs : Array Value} {t : TypeId} {fr : Nat × Nat} (hR : w.heap[R]? = some (.cells cs t fr)) (ht : ¬ isD t) (hf : Frm (fun b => b = R) w w') : DStAt w' S base σ :=
  h.same fun b hb => hf.block b (h.lt hb) (fun e => by
    obtain ⟨cs', t', g, gt⟩ := h.ty hb
    rw [e, hR] at g
    simp at g
    exact ht (g.2.1 ▸ gt))
theorem setCells_other : ∀ (vs : List Value) (w : World) (g o k : Nat), k ≠ g → (w.setCells g o vs).heap[k]? = w.heap[k]?
  | [], _, _, _, _, _ => rfl
  | v :: r, w, g, o, k, h => by
    rw [World.setCells]
    exact (setCells_other r _ g (o + 1) k h).trans (heap_setCell_other w ⟨g, o, none⟩ k v h)
/-- an object laid in its place -/
theorem DStAt.inPlace {w w' : World} {S base : Nat} {σ : DSto} (h : DStAt w S base σ) {g : Nat} {cur : Array Value} (hoa : σ.oa = some ⟨g, 0, none⟩) (hgk : w.heap[g]? = some (.cells cur 59 (0, 0))) {i : Nat} (hil : i < σ.objs.length) {o : DObj} {base' : Nat} (hrow : w.ownsRow base' 5 1 (.slice o.da o.dn o.dc) o.dn (bv o.data)) (hbb : base ≤ base') (hby : ∀ x ∈ o.data, x < 256) (hle : o.data.length = o.dn) (hsm : o.dn ≤ 262144) (hw : w'.heap = (w.setCells g (i * 4) (DObjS.f o)).heap) : DStAt w' S base { σ with objs := σ.objs.set i o } := by
  have hoth : ∀ b, b ≠ g → w'.heap[b]? = w.heap[b]? := fun b hb => by rw [hw]; exact setCells_other _ _ _ _ _ hb
  refine h.objSet ?_ (fun b _ hb => hoth b (fun e => hb (by rw [hoa, e]; rfl))) ⟨?_, hby, hle, hsm⟩ (fun b hb => by
    rw [hoa] at hb
    cases hb
    exact ⟨_, _, hgk⟩)
  · have h1 := h.orow
    rw [hoa] at h1 ⊢
    exact own_same (own_setCells (S := DObjS) h1 rfl hil o) (fun b _ => by rw [hw]; rfl)
  · refine own_baseD (own_same hrow fun b hb => hoth b fun e => ?_) hbb
    obtain ⟨cu, g2⟩ := own_blk_ty hrow hb
    rw [e, hgk] at g2
    simp at g2
/-- an object put in by its key -/
theorem putL_new {l : List DObj} {o : DObj} (hf : l.findIdx? (fun x => decide (x.key = o.key)) = none) {m : Nat} (hm : m ≤ l.length) (h1 : ∀ j x, j < m → l[j]? = some x → ltK x.key o.key = true) (h2 : ∀ x, l[m]? = some x → ltK x.key o.key = false) : putL l o = l.take m ++ [o] ++ l.drop m := by
  obtain ⟨e1, e2⟩ := take_drop_while (fun x => ltK x.key o.key) l m hm h1 h2
  unfold putL
  rw [hf, e1, e2]
theorem putL_old {l : List DObj} {o : DObj} {i : Nat} (hf : l.findIdx? (fun x => decide (x.key = o.key)) = some i) : putL l o = l.set i o := by
  unfold putL
  rw [hf]
theorem putL_mem {l : List DObj} {o x : DObj} (h : x ∈ putL l o) : x ∈ l ∨ x = o := by
  unfold putL at h
  split at h
  · exact List.mem_or_eq_of_mem_set h
  · rcases List.mem_append.1 h with g | g
    · rcases List.mem_append.1 g with g | g
      · exact .inl ((List.takeWhile_sublist _).subset g)
      · exact .inr (List.mem_singleton.1 g)
    · exact .inl ((List.dropWhile_sublist _).subset g)
/-- one thing, in new memory -/
theorem vec_oneS {α : Type} (S : Sty α) (w : World) (x : α) (hx : ∀ W, S.ok W x) (t : TypeId) {cs : Array Value} (hcs : cs = (S.f x).toArray) : VecAt S (w.alloc (.cells cs t)) (some ⟨w.heap.size, 0, none⟩) 1 1 [x] := by
  refine ⟨rfl, Nat.le_refl _, by omega, (fun e => by cases e), (fun y hy => by rw [List.mem_singleton.1 hy]; exact hx _), fun _ => ⟨w.heap.size, 0, rfl, by simp, fun i hi j v hv => ?_⟩⟩
  obtain rfl : i = 0 := by omega
  have := S.src w x t hcs j v hv
  rw [show (⟨w.heap.size, 0, none⟩ : Addr).add j = ⟨w.heap.size, 0 + 0 * S.K + j, none⟩ from by rw [Nat.zero_mul, Nat.zero_add]; unfold Addr.add; split <;> simp_all] at this
  exact this
/-- the end of a put -/
theorem put_done {F : Nat → Prop} {w WN W5 : World} {S base R : Nat} {σ' : DSto} {cs : Array Value} (hst : DStAt WN S base σ') (hR : WN.heap[R]? = some (.cells cs 43 (0, 0))) (hRw : w.heap.size ≤ R) (hN : Frm F w WN) (h5 : Frm (fun b => b = R) WN W5) : DStAt W5 S base σ' ∧ Frm F w W5 :=
  ⟨hst.frmT hR rep_notD h5, hN.trans h5 (fun i e => .inr (by rw [e]; exact hRw))⟩
end Go.Proofs.YtjafagfhkpaciaaGreat
end PkSP2_0
section PkSP2_1
/- A reply in memory: filled, and handed back. -/
namespace Go.Proofs.YtjafagfhkpaciaaGreat
open Go.RowKit
set_option linter.unusedVariables false

/-- a reply's block filled cell by cell -/
def setR (w : World) (R : Nat) (x0 x1 x2 x3 x4 x5 x6 : Value) : World :=
  (((((((w.setCell ⟨R, 0, none⟩ x0).setCell ⟨R, 1, none⟩ x1).setCell ⟨R, 2, none⟩ x2).setCell ⟨R, 3, none⟩ x3).setCell ⟨R, 4, none⟩ x4).setCell ⟨R, 5, none⟩ x5).setCell ⟨R, 6, none⟩ x6)
theorem setR_at {w : World} {R : Nat} {y0 y1 y2 y3 y4 y5 y6 : Value} {t : TypeId} (g : w.heap[R]? = some (.cells #[y0, y1, y2, y3, y4, y5, y6] t (0, 0))) (x0 x1 x2 x3 x4 x5 x6 : Value) :
    (setR w R x0 x1 x2 x3 x4 x5 x6).heap[R]? = some (.cells #[x0, x1, x2, x3, x4, x5, x6] t (0, 0)) := by
  unfold setR
  have h0 := heap_setCell_same w R 0 _ _ x0 g
  have h1 := heap_setCell_same _ R 1 _ _ x1 h0
  have h2 := heap_setCell_same _ R 2 _ _ x2 h1
  have h3 := heap_setCell_same _ R 3 _ _ x3 h2
  have h4 := heap_setCell_same _ R 4 _ _ x4 h3
  have h5 := heap_setCell_same _ R 5 _ _ x5 h4
  have h6 := heap_setCell_same _ R 6 _ _ x6 h5
  rw [h6]
  rfl
theorem Frm.setR {F : Nat → Prop} {a b : World} (h : Frm F a b) {R : Nat} (hp : F R ∨ a.heap.size ≤ R) (x0 x1 x2 x3 x4 x5 x6 : Value) : Frm F a (setR b R x0 x1 x2 x3 x4 x5 x6) :=
  ((((((h.set hp 0 x0).set hp 1 x1).set hp 2 x2).set hp 3 x3).set hp 4 x4).set hp 5 x5).set hp 6 x6
theorem ret_cell {P : Program} {fn : Func} {p : Tmp} {ty : TypeId} (h : fn.results = #[.cell p ty]) (tmps : Array Value) (w : World) (g : Nat) (t : TypeId) (cs : Array Value) (fr : Nat × Nat) (d : TypeDesc)
    (hp : tmps.getD p undef = .pointer (some ⟨g, 0, none⟩)) (hg : w.heap[g]? = some (.cells cs t fr))
    (hu : P.underlying ty = some d) (hd : (match d with | .struct _ | .array _ _ => true | _ => false) = true) (hi : (P.info? ty).map (·.size) = some cs.size) :
    (results fn tmps).run P w = .ok (.agg cs) w := by
  have hp' : tmps[p]?.getD undef = .pointer (some ⟨g, 0, none⟩) := by simpa using hp
  simp [results, h, hp', asAddr, run_loadVar_row w g t ty cs fr d hg hu hd hi]
/-- a reply is handed back -/
theorem ret_rep {fn : Func} {p : Tmp} (h : fn.results = #[.cell p 43]) (tmps : Array Value) (w : World) (g : Nat) {e v b i : Int} {d l : Value} {m : Bool}
    (hp : tmps.getD p undef = .pointer (some ⟨g, 0, none⟩)) (hg : w.heap[g]? = some (.cells #[.int .i64 e, d, .int .i64 v, .int .i64 b, .int .i64 i, l, .bool m] 43 (0, 0))) :
    (results fn tmps).run Tryz.prog w = .ok (rep e d v b i l m) w :=
  ret_cell h tmps w g _ _ _ _ hp hg Tryz.underlying43 rfl (by kernel_rfl)
/-- a call's cells -/
def callV (ki : Int) (ky : ByteArray) (a : Option Addr) (n c : Nat) (vr at_ nn id : Int) : Array Value := #[.int .i64 ki, .string ky, .slice a n c, .int .i64 vr, .int .i64 at_, .int .i64 nn, .int .i64 id]
def zrep : Array Value := #[.int .i64 0, .slice none 0 0, .int .i64 0, .int .i64 0, .int .i64 0, .slice none 0 0, .bool false]
/-- a method's beginning: the call's box, the reply's -/
structure Ent (w W : World) (s Mo Mu : Nat) (σ : Sto) (cs : Array Value) : Prop where
  st : StAt W s Mo Mu σ
  cb : W.heap[w.heap.size]? = some (.cells cs 34 (0, 0))
  rb : W.heap[w.heap.size + 1]? = some (.cells zrep 43 (0, 0))
  sz : W.heap.size = w.heap.size + 2
  bel : Below w.heap.size w W
theorem ent_mk {w : World} {s Mo Mu : Nat} {σ : Sto} (h : StAt w s Mo Mu σ) (cs : Array Value) : Ent w ((w.alloc (.cells cs 34)).alloc (.cells zrep 43)) s Mo Mu σ cs := by
  have h1 : Below w.heap.size w ((w.alloc (.cells cs 34)).alloc (.cells zrep 43)) := ((Below.refl _ _).alloc (Nat.le_refl _) _).alloc (by simp) _
  have e1 : (w.alloc (.cells cs 34)).heap.size = w.heap.size + 1 := by simp
  refine ⟨h.below h1, ?_, ?_, by simp, h1⟩
  · exact (Below.heap_alloc _ _ _ (by rw [e1]; omega)).trans (heap_new w _)
  · have := heap_new (w.alloc (.cells cs 34)) (.cells zrep 43)
    rwa [e1] at this
theorem rb_cells {w : World} {R : Nat} (g : w.heap[R]? = some (.cells zrep 43 (0, 0))) :
    (w.cell? ⟨R, 0, none⟩ = some (.int .i64 0) ∧ w.cell? ⟨R, 1, none⟩ = some (.slice none 0 0) ∧ w.cell? ⟨R, 2, none⟩ = some (.int .i64 0) ∧ w.cell? ⟨R, 3, none⟩ = some (.int .i64 0) ∧ w.cell? ⟨R, 4, none⟩ = some (.int .i64 0) ∧ w.cell? ⟨R, 5, none⟩ = some (.slice none 0 0) ∧ w.cell? ⟨R, 6, none⟩ = some (.bool false)) ∧
    w.frozen? ⟨R, 0, none⟩ = false ∧ w.frozen? ⟨R, 1, none⟩ = false ∧ w.frozen? ⟨R, 2, none⟩ = false ∧ w.frozen? ⟨R, 3, none⟩ = false ∧ w.frozen? ⟨R, 4, none⟩ = false ∧ w.frozen? ⟨R, 5, none⟩ = false ∧ w.frozen? ⟨R, 6, none⟩ = false :=
  ⟨⟨cell_blk2 g rfl, cell_blk2 g rfl, cell_blk2 g rfl, cell_blk2 g rfl, cell_blk2 g rfl, cell_blk2 g rfl, cell_blk2 g rfl⟩, fro_blk2 g 0, fro_blk2 g 1, fro_blk2 g 2, fro_blk2 g 3, fro_blk2 g 4, fro_blk2 g 5, fro_blk2 g 6⟩
theorem setR_at0 {w : World} {R : Nat} (g : w.heap[R]? = some (.cells zrep 43 (0, 0))) (x0 x1 x2 x3 x4 x5 x6 : Value) :
    (setR w R x0 x1 x2 x3 x4 x5 x6).heap[R]? = some (.cells #[x0, x1, x2, x3, x4, x5, x6] 43 (0, 0)) := setR_at g x0 x1 x2 x3 x4 x5 x6
/-- a method ends with a reply that was laid into its box: nothing below turned but the box -/
theorem ret_set {fn : Func} {p : Tmp} (h : fn.results = #[.cell p 43]) (tmps : Array Value) {w0 w : World} {R : Nat} (g : w.heap[R]? = some (.cells zrep 43 (0, 0))) (hp : tmps.getD p undef = .pointer (some ⟨R, 0, none⟩)) (e v b i : Int) (d l : Value) (m : Bool) :
    (results fn tmps).run Tryz.prog (setR w R (.int .i64 e) d (.int .i64 v) (.int .i64 b) (.int .i64 i) l (.bool m)) = .ok (rep e d v b i l m) (setR w R (.int .i64 e) d (.int .i64 v) (.int .i64 b) (.int .i64 i) l (.bool m)) :=
  ret_rep h tmps _ R hp (setR_at0 g _ _ _ _ _ _ _)
/-- under way: the call's box, the reply's, and one more -/
structure Md (w W : World) (s Mo Mu : Nat) (σ : Sto) (cs : Array Value) (box : Array Value) (bt : TypeId) : Prop where
  st : StAt W s Mo Mu σ
  cb : W.heap[w.heap.size]? = some (.cells cs 34 (0, 0))
  rb : W.heap[w.heap.size + 1]? = some (.cells zrep 43 (0, 0))
  ob : W.heap[w.heap.size + 2]? = some (.cells box bt (0, 0))
  bel : Below w.heap.size w W
theorem md_mk {w W : World} {s Mo Mu : Nat} {σ : Sto} {cs : Array Value} (h : Ent w W s Mo Mu σ cs) (box : Array Value) (bt : TypeId) : Md w (W.alloc (.cells box bt)).drew s Mo Mu σ cs box bt := by
  have hb : Below W.heap.size W (W.alloc (.cells box bt)).drew := ((Below.refl _ _).alloc (Nat.le_refl _) _).drew
  refine ⟨h.st.below hb, (hb.block _ (by have := h.sz; omega)).trans h.cb, (hb.block _ (by have := h.sz; omega)).trans h.rb, ?_, h.bel.trans (hb.mono h.bel.size)⟩
  have := heap_new W (.cells box bt)
  rw [h.sz] at this
  exact this
theorem Md.kept {w W W' : World} {s Mo Mu : Nat} {σ : Sto} {cs box : Array Value} {bt : TypeId} (h : Md w W s Mo Mu σ cs box bt) (hb : Below W.heap.size W W') : Md w W' s Mo Mu σ cs box bt :=
  ⟨h.st.below hb, (hb.block _ (Array.getElem?_eq_some_iff.1 h.cb).1).trans h.cb, (hb.block _ (Array.getElem?_eq_some_iff.1 h.rb).1).trans h.rb, (hb.block _ (Array.getElem?_eq_some_iff.1 h.ob).1).trans h.ob, h.bel.trans (hb.mono h.bel.size)⟩
/-- a method's end: the reply's box was filled -/
theorem Md.done {w W : World} {s Mo Mu : Nat} {σ : Sto} {cs box : Array Value} {bt : TypeId} (h : Md w W s Mo Mu σ cs box bt) (hs : s < w.heap.size) (hF : ∀ b, StF s Mo Mu σ b → b < w.heap.size) (x0 x1 x2 x3 x4 x5 x6 : Value) :
    StAt (setR W (w.heap.size + 1) x0 x1 x2 x3 x4 x5 x6) s Mo Mu σ ∧ Below w.heap.size w (setR W (w.heap.size + 1) x0 x1 x2 x3 x4 x5 x6) := by
  have h1 : Frm (fun b => b = w.heap.size + 1) W (setR W (w.heap.size + 1) x0 x1 x2 x3 x4 x5 x6) := (Frm.refl (fun b => b = w.heap.size + 1) W).setR (R := w.heap.size + 1) (.inl rfl) _ _ _ _ _ _ _
  refine ⟨h.st.same fun b hb => h1.block b (h.st.lt hb) (fun e => by have := hF b hb; omega), ?_⟩
  exact ⟨h1.os.trans h.bel.os, h1.tape.trans h.bel.tape, h1.output.trans h.bel.output, Nat.le_trans h.bel.size h1.size, fun i hi => (h1.block i (Nat.lt_of_lt_of_le hi h.bel.size) (by omega)).trans (h.bel.block i hi)⟩
end Go.Proofs.YtjafagfhkpaciaaGreat
end PkSP2_1
section PkSP2_2
/- The document's put, walked. Written by gensdput.py. -/
namespace Go.Proofs.YtjafagfhkpaciaaGreat
open Go.RowKit
set_option linter.unusedVariables false

set_option maxRecDepth 100000 in
set_option maxHeartbeats 8000000 in
theorem dput_any {w : World} {S base : Nat} {σ : DSto} (h : DStAt w S base σ) (k : ByteArray) {da : Option Addr} {dn dc : Nat} {data : List Nat} (hd : BytesAt w da dn dc data) (hv : 0 ≤ σ.ver ∧ σ.ver ≤ 1000000000) (hbs : base ≤ w.heap.size) (hdn : dn ≤ 262144) (hnew : atK σ.objs k = -1 → σ.objs.length < 512) :
    Calls Tryz.prog 31 #[.pointer (some ⟨S, 0, none⟩), .string k, .slice da dn dc] w fun e w' => e = .returned (rep 0 (.slice none 0 0) (σ.ver + 1) σ.now 0 (.slice none 0 0) false) ∧ PutP w S base σ k dn data w' := by
  have hSl : S < w.heap.size := (Array.getElem?_eq_some_iff.1 h.blk).1
  obtain ⟨v1, hv1⟩ : ∃ v1, v1 = σ.ver + 1 := ⟨_, rfl⟩
  obtain ⟨now, hnow⟩ : ∃ now, now = σ.now := ⟨_, rfl⟩
  obtain ⟨R, hR⟩ : ∃ R, R = w.heap.size := ⟨_, rfl⟩
  obtain ⟨W1, hW1⟩ : ∃ W1, W1 = w.alloc (.cells zrep 43) := ⟨_, rfl⟩
  obtain ⟨W2, hW2⟩ : ∃ W2, W2 = W1.setCell ⟨S, 2, none⟩ (.int .i64 v1) := ⟨_, rfl⟩
  have hb1 : Below w.heap.size w W1 := by rw [hW1]; exact (Below.refl _ _).alloc (Nat.le_refl _) _
  have h1 := h.below hb1
  have h2 : DStAt W2 S base { σ with ver := v1 } := by rw [hW2]; exact h1.verLaid v1
  have c2 : w.cell? ⟨S, 2, none⟩ = some (.int .i64 σ.ver) := cell_blkD h.blk (i := 2) rfl
  have c2' : W1.cell? ⟨S, 2, none⟩ = some (.int .i64 σ.ver) := cell_blkD h1.blk (i := 2) rfl
  have f2 : W1.frozen? ⟨S, 2, none⟩ = false := frz_blkD h1.blk 2
  have d2 : W2.cell? ⟨S, 2, none⟩ = some (.int .i64 v1) := cell_blkD h2.blk (i := 2) rfl
  have d4 : W2.cell? ⟨S, 4, none⟩ = some (.int .i64 now) := by rw [hnow]; exact cell_blkD h2.blk (i := 4) rfl
  have wv : IntKind.i64.wrap (σ.ver + 1) = v1 := by rw [hv1]; exact IntWalk.i64_in _ (by omega)
  have HS2 := Lib.hid h2
  have hSl2 : S < W2.heap.size := (Array.getElem?_eq_some_iff.1 h2.blk).1
  have HE := Lib.hid (And.intro hW1 (And.intro hW2 hR))
  have HI0 := Lib.hid (Below.refl W2.heap.size W2).drew
  have HD2 : Hid (BytesAt W2 da dn dc data) := Lib.hid (by rw [hW2]; exact (hd.kept hb1).turnD (grown_setD _ _ _ _) (bytes_notS h1 (hd.kept hb1)))
  have HVN := Lib.hid (And.intro hv1 hnow)
  have HRB := Lib.hid (show W2.heap[R]? = some (.cells zrep 43 (0, 0)) from by
    rw [hW2]
    refine (heap_setCell_other W1 ⟨S, 2, none⟩ R _ (fun e => by rw [hR] at e; simp only at e; omega)).trans ?_
    rw [hW1, hR]
    exact heap_alloc_newD w _)
  have HFR := Lib.hid (show Frm (DFo S σ) w W2 from by rw [hW2]; exact ((Frm.refl _ w).below hb1).set (.inl (.inl rfl)) _ _)
  have HBW := Lib.hid (show base ≤ W2.heap.size from Nat.le_trans hbs HFR.out.size)
  have HNEW := Lib.hid hnew
  clear h h1 h2 hd hv1 hnow hR hW1 hW2 hb1 hbs hnew
  go_enter Tryz.func31, Tryz.ntmps31
  go_upto_region 1 with fail
  rw [show (w.alloc (.cells #[.int .i64 0, .slice none 0 0, .int .i64 0, .int .i64 0, .int .i64 0, .slice none 0 0, .bool false] 43)) = W1 from HE.out.1.symm, ← HE.out.2.2]
  go_upto_region 2 with fail
  rw [← HE.out.2.1]
  refine wp_region_inv (by kernel_rfl) (by kernel_rfl) (by kernel_rfl) (PtI W2 k dn data v1 now (fun j_9 => match j_9 with | 0 => some (.string k) | 1 => some (.slice da dn dc) | 2 => none | 3 => some (.pointer (some ⟨S, 0, none⟩)) | 4 => some (.pointer (some ⟨S, 0, none⟩)) | 5 => some (.pointer (some ⟨S, 2, none⟩)) | 6 => some (.int .i64 v1) | 7 => some (.pointer (some ⟨S, 0, none⟩)) | 8 => some (.pointer (some ⟨S, 0, none⟩)) | 9 => some (.pointer (some ⟨S, 4, none⟩)) | 10 => some (.int .i64 now) | 11 => none | 12 => none | 13 => none | _ => none)) (fun V => ⟨HI0.out, (fun h => by cases h), (fun h => by cases h), (fun h => by cases h), (fun h => by cases h), (fun j u h => by cases h)⟩) ?_ ?_
  · intro i9 o ho T V w9 K hI hT hdep hK
    have HI := Lib.hid hI
    simp only [fill, slotOf, List.size_toArray, List.length_cons, List.length_nil, Nat.reduceAdd, List.getElem?_toArray, List.getElem?_cons_zero, List.getElem?_cons_succ, Option.bind_some, Act.put, List.setIfInBounds_toArray, List.set_cons_zero, List.set_cons_succ] at hK ⊢
    have hin9 : i9 < 14 := (Array.getElem?_eq_some_iff.1 ho).1
    have hcs : i9 = 0 ∨ i9 = 1 ∨ i9 = 2 ∨ i9 = 3 ∨ i9 = 4 ∨ i9 = 5 ∨ i9 = 6 ∨ i9 = 7 ∨ i9 = 8 ∨ i9 = 9 ∨ i9 = 10 ∨ i9 = 11 ∨ i9 = 12 ∨ i9 = 13 := by omega
    clear hin9
    rcases hcs with rfl | rfl | rfl | rfl | rfl | rfl | rfl | rfl | rfl | rfl | rfl | rfl | rfl | rfl
    · obtain rfl := Option.some.inj ho.symm
      clear hdep ho hI hT
      try simp only [fill, slotOf, List.size_toArray, List.length_cons, List.length_nil, Nat.reduceAdd, List.getElem?_toArray, List.getElem?_cons_zero, List.getElem?_cons_succ, Option.bind_some, Act.put, List.setIfInBounds_toArray, List.set_cons_zero, List.set_cons_succ] at hK ⊢
      go_simp
      exact hK (.string k) _ (HI.out.val 0 _ rfl (by decide) (by decide) (by decide) (by decide)) _ rfl
    · obtain rfl := Option.some.inj ho.symm
      clear hdep ho hI hT
      try simp only [fill, slotOf, List.size_toArray, List.length_cons, List.length_nil, Nat.reduceAdd, List.getElem?_toArray, List.getElem?_cons_zero, List.getElem?_cons_succ, Option.bind_some, Act.put, List.setIfInBounds_toArray, List.set_cons_zero, List.set_cons_succ] at hK ⊢
      go_simp
      exact hK (.slice da dn dc) _ (HI.out.val 1 _ rfl (by decide) (by decide) (by decide) (by decide)) _ rfl
    · obtain rfl := Option.some.inj ho.symm
      have d19 : V 1 = .slice da dn dc := HI.out.vs 1 _ (hdep ⟨1, .data⟩ (by simp) rfl) rfl
      have HC := Lib.hid (twin_any (HD2.out.kept HI.out.bel))
      clear hdep ho hI
      try simp only [fill, slotOf, List.size_toArray, List.length_cons, List.length_nil, Nat.reduceAdd, List.getElem?_toArray, List.getElem?_cons_zero, List.getElem?_cons_succ, Option.bind_some, Act.put, List.setIfInBounds_toArray, List.set_cons_zero, List.set_cons_succ] at hK ⊢
      rw [d19] at hK ⊢
      go_simp
      refine HC.out.mono ?_
      rintro e w8 ⟨v8, rfl, ho8, _, hb8⟩
      exact hK v8 _ (HI.out.op2 hT rfl hb8 ho8) _ rfl
    · obtain rfl := Option.some.inj ho.symm
      clear hdep ho hI hT
      try simp only [fill, slotOf, List.size_toArray, List.length_cons, List.length_nil, Nat.reduceAdd, List.getElem?_toArray, List.getElem?_cons_zero, List.getElem?_cons_succ, Option.bind_some, Act.put, List.setIfInBounds_toArray, List.set_cons_zero, List.set_cons_succ] at hK ⊢
      go_simp
      exact hK (.pointer (some ⟨S, 0, none⟩)) _ (HI.out.val 3 _ rfl (by decide) (by decide) (by decide) (by decide)) _ rfl
    · obtain rfl := Option.some.inj ho.symm
      have d39 : V 3 = .pointer (some ⟨S, 0, none⟩) := HI.out.vs 3 _ (hdep ⟨3, .data⟩ (by simp) rfl) rfl
      clear hdep ho hI hT
      try simp only [fill, slotOf, List.size_toArray, List.length_cons, List.length_nil, Nat.reduceAdd, List.getElem?_toArray, List.getElem?_cons_zero, List.getElem?_cons_succ, Option.bind_some, Act.put, List.setIfInBounds_toArray, List.set_cons_zero, List.set_cons_succ] at hK ⊢
      rw [d39] at hK ⊢
      go_simp
      exact hK (.pointer (some ⟨S, 0, none⟩)) _ (HI.out.val 4 _ rfl (by decide) (by decide) (by decide) (by decide)) _ rfl
    · obtain rfl := Option.some.inj ho.symm
      have d49 : V 4 = .pointer (some ⟨S, 0, none⟩) := HI.out.vs 4 _ (hdep ⟨4, .data⟩ (by simp) rfl) rfl
      clear hdep ho hI hT
      try simp only [fill, slotOf, List.size_toArray, List.length_cons, List.length_nil, Nat.reduceAdd, List.getElem?_toArray, List.getElem?_cons_zero, List.getElem?_cons_succ, Option.bind_some, Act.put, List.setIfInBounds_toArray, List.set_cons_zero, List.set_cons_succ] at hK ⊢
      rw [d49] at hK ⊢
      go_simp
      exact hK (.pointer (some ⟨S, 2, none⟩)) _ (HI.out.val 5 _ rfl (by decide) (by decide) (by decide) (by decide)) _ rfl
    · obtain rfl := Option.some.inj ho.symm
      have d59 : V 5 = .pointer (some ⟨S, 2, none⟩) := HI.out.vs 5 _ (hdep ⟨5, .data⟩ (by simp) rfl) rfl
      have u1 : w9.cell? ⟨S, 2, none⟩ = some (.int .i64 v1) := (HI.out.bel.cell (p := ⟨S, 2, none⟩) hSl2).trans d2
      clear hdep ho hI hT
      try simp only [fill, slotOf, List.size_toArray, List.length_cons, List.length_nil, Nat.reduceAdd, List.getElem?_toArray, List.getElem?_cons_zero, List.getElem?_cons_succ, Option.bind_some, Act.put, List.setIfInBounds_toArray, List.set_cons_zero, List.set_cons_succ] at hK ⊢
      rw [d59] at hK ⊢
      go_simp
      exact hK (.int .i64 v1) _ (HI.out.val 6 _ rfl (by decide) (by decide) (by decide) (by decide)) _ rfl
    · obtain rfl := Option.some.inj ho.symm
      clear hdep ho hI hT
      try simp only [fill, slotOf, List.size_toArray, List.length_cons, List.length_nil, Nat.reduceAdd, List.getElem?_toArray, List.getElem?_cons_zero, List.getElem?_cons_succ, Option.bind_some, Act.put, List.setIfInBounds_toArray, List.set_cons_zero, List.set_cons_succ] at hK ⊢
      go_simp
      exact hK (.pointer (some ⟨S, 0, none⟩)) _ (HI.out.val 7 _ rfl (by decide) (by decide) (by decide) (by decide)) _ rfl
    · obtain rfl := Option.some.inj ho.symm
      have d79 : V 7 = .pointer (some ⟨S, 0, none⟩) := HI.out.vs 7 _ (hdep ⟨7, .data⟩ (by simp) rfl) rfl
      clear hdep ho hI hT
      try simp only [fill, slotOf, List.size_toArray, List.length_cons, List.length_nil, Nat.reduceAdd, List.getElem?_toArray, List.getElem?_cons_zero, List.getElem?_cons_succ, Option.bind_some, Act.put, List.setIfInBounds_toArray, List.set_cons_zero, List.set_cons_succ] at hK ⊢
      rw [d79] at hK ⊢
      go_simp
      exact hK (.pointer (some ⟨S, 0, none⟩)) _ (HI.out.val 8 _ rfl (by decide) (by decide) (by decide) (by decide)) _ rfl
    · obtain rfl := Option.some.inj ho.symm
      have d89 : V 8 = .pointer (some ⟨S, 0, none⟩) := HI.out.vs 8 _ (hdep ⟨8, .data⟩ (by simp) rfl) rfl
      clear hdep ho hI hT
      try simp only [fill, slotOf, List.size_toArray, List.length_cons, List.length_nil, Nat.reduceAdd, List.getElem?_toArray, List.getElem?_cons_zero, List.getElem?_cons_succ, Option.bind_some, Act.put, List.setIfInBounds_toArray, List.set_cons_zero, List.set_cons_succ] at hK ⊢
      rw [d89] at hK ⊢
      go_simp
      exact hK (.pointer (some ⟨S, 4, none⟩)) _ (HI.out.val 9 _ rfl (by decide) (by decide) (by decide) (by decide)) _ rfl
    · obtain rfl := Option.some.inj ho.symm
      have d99 : V 9 = .pointer (some ⟨S, 4, none⟩) := HI.out.vs 9 _ (hdep ⟨9, .data⟩ (by simp) rfl) rfl
      have u1 : w9.cell? ⟨S, 4, none⟩ = some (.int .i64 now) := (HI.out.bel.cell (p := ⟨S, 4, none⟩) hSl2).trans d4
      clear hdep ho hI hT
      try simp only [fill, slotOf, List.size_toArray, List.length_cons, List.length_nil, Nat.reduceAdd, List.getElem?_toArray, List.getElem?_cons_zero, List.getElem?_cons_succ, Option.bind_some, Act.put, List.setIfInBounds_toArray, List.set_cons_zero, List.set_cons_succ] at hK ⊢
      rw [d99] at hK ⊢
      go_simp
      exact hK (.int .i64 now) _ (HI.out.val 10 _ rfl (by decide) (by decide) (by decide) (by decide)) _ rfl
    · obtain rfl := Option.some.inj ho.symm
      have d09 : V 0 = .string k := HI.out.vs 0 _ (hdep ⟨0, .data⟩ (by simp) rfl) rfl
      have d69 : V 6 = .int .i64 v1 := HI.out.vs 6 _ (hdep ⟨6, .data⟩ (by simp) rfl) rfl
      have d109 : V 10 = .int .i64 now := HI.out.vs 10 _ (hdep ⟨10, .data⟩ (by simp) rfl) rfl
      have t2 : T 2 = true := hdep ⟨2, .data⟩ (by simp) rfl
      obtain ⟨a9, c9, d29⟩ := own_sliceD (HI.out.row t2)
      have HN := Lib.hid (HI.out.op11 hT t2 rfl)
      rw [d29] at HN
      clear hdep ho hI
      try simp only [fill, slotOf, List.size_toArray, List.length_cons, List.length_nil, Nat.reduceAdd, List.getElem?_toArray, List.getElem?_cons_zero, List.getElem?_cons_succ, Option.bind_some, Act.put, List.setIfInBounds_toArray, List.set_cons_zero, List.set_cons_succ] at hK ⊢
      rw [d09, d69, d109, d29] at hK ⊢
      go_simp
      exact hK _ _ HN.out _ rfl
    · obtain rfl := Option.some.inj ho.symm
      have HN := Lib.hid (HI.out.op12 hT rfl)
      clear hdep ho hI
      try simp only [fill, slotOf, List.size_toArray, List.length_cons, List.length_nil, Nat.reduceAdd, List.getElem?_toArray, List.getElem?_cons_zero, List.getElem?_cons_succ, Option.bind_some, Act.put, List.setIfInBounds_toArray, List.set_cons_zero, List.set_cons_succ] at hK ⊢
      go_simp
      exact hK _ _ HN.out _ rfl
    · obtain rfl := Option.some.inj ho.symm
      have t11 : T 11 = true := hdep ⟨11, .data⟩ (by simp) rfl
      have t12 : T 12 = true := hdep ⟨12, .data⟩ (by simp) rfl
      obtain ⟨b9, d129, hb9, hbx⟩ := HI.out.box t12
      rw [hT, if_neg (by decide)] at hbx
      obtain ⟨t2, d119⟩ := HI.out.bld t11
      obtain ⟨a9, c9, d29⟩ := own_sliceD (HI.out.row t2)
      have HG := Lib.hid (grown_rowD w9 b9 #[.string k, V 2, .int .i64 v1, .int .i64 now])
      have HN := Lib.hid (setRow_atD (cs' := #[.string k, V 2, .int .i64 v1, .int .i64 now]) hbx)
      have HO := Lib.hid (fun x => HI.out.op13 hT t11 t12 d129 rfl HG.out HN.out x)
      clear hdep ho hI
      try simp only [fill, slotOf, List.size_toArray, List.length_cons, List.length_nil, Nat.reduceAdd, List.getElem?_toArray, List.getElem?_cons_zero, List.getElem?_cons_succ, Option.bind_some, Act.put, List.setIfInBounds_toArray, List.set_cons_zero, List.set_cons_succ] at hK ⊢
      rw [d119, d129] at hK ⊢
      rw [if_pos (by first | rfl | kernel_rfl)]
      refine wp_store_row 59 (.tmp 7) (.tmp 30) rfl b9 #[.string k, V 2, .int .i64 v1, .int .i64 now] rfl rfl 59 objZv hbx (by kernel_rfl) rfl (by rw [d29]; simp [Value.oneCell']) ?_
      exact hK undef _ (HO.out undef) _ rfl
  · intro T V w9 hI hall
    obtain ⟨b9, d12, hb9, hbx⟩ := hI.box (hall 12 (by decide))
    rw [hall 13 (by decide), if_pos rfl] at hbx
    have t2 := hall 2 (by decide)
    have hrow := hI.row t2
    obtain ⟨ta, tc, e2⟩ := own_sliceD hrow
    rw [e2] at hbx hrow
    have HRW := Lib.hid hrow
    have HBX := Lib.hid hbx
    have HB9 := Lib.hid hI.bel
    have HS9 := Lib.hid (HS2.out.below hI.bel)
    have HB9L := Lib.hid hb9
    have HAT := Lib.hid (dat_any HS9.out k)
    clear hI hall hrow hbx hb9
    simp only [fill, slotOf, List.size_toArray, List.length_cons, List.length_nil, Nat.reduceAdd, List.getElem?_toArray, List.getElem?_cons_zero, List.getElem?_cons_succ, Option.bind_some, Act.put, List.setIfInBounds_toArray, List.set_cons_zero, List.set_cons_succ]
    rw [d12]
    clear d12 e2
    go_wp2_with fail
    refine HAT.out.mono ?_
    rintro e w10 ⟨rfl, rfl⟩
    rcases hfi : σ.objs.findIdx? (fun o => decide (o.key = k)) with _ | i
    · have hAK : atK ({ σ with ver := v1 } : DSto).objs k = -1 := by unfold atK; rw [hfi]
      rw [hAK]
      have hn512 := HNEW.out (show atK σ.objs k = -1 from hAK)
      obtain ⟨l, hl⟩ : ∃ l, l = σ.objs := ⟨_, rfl⟩
      obtain ⟨n, hn⟩ : ∃ n, n = σ.objs.length := ⟨_, rfl⟩
      obtain ⟨oa, hoa⟩ : ∃ oa, oa = σ.oa := ⟨_, rfl⟩
      obtain ⟨oc, hoc⟩ : ∃ oc, oc = σ.oc := ⟨_, rfl⟩
      rw [← hn] at hn512
      have HLN := Lib.hid (show l.length = n from by rw [hl, hn])
      have HF0 := Lib.hid (show l.findIdx? (fun o => decide (o.key = k)) = none from by rw [hl]; exact hfi)
      have HV := Lib.hid (show VecAt DObjS w10 oa n oc l from by rw [hl, hn, hoa, hoc]; exact HS9.out.objs)
      have c0 : w10.cell? ⟨S, 0, none⟩ = some (.slice oa n oc) := by rw [hn, hoa, hoc]; exact cell_blkD HS9.out.blk (i := 0) rfl
      have HLL := Lib.hid hl
      have HN := Lib.hid (And.intro hoa.symm (And.intro hn.symm hoc.symm))
      have HBX10 := Lib.hid (show base ≤ w10.heap.size from Nat.le_trans HBW.out HB9.out.size)
      have HRB10 := Lib.hid ((HB9.out.block R (Array.getElem?_eq_some_iff.1 HRB.out).1).trans HRB.out)
      have hcp := HV.out.cap
      have hcm := HV.out.capm
      clear hfi hAK hl hn hoa hoc
      go_wp2_with fail
      go_loopw [9] (fun s9 wr => ∃ m : Nat, m ≤ n ∧ s9 = .int .i64 (m : Int) ∧ wr = w10 ∧ Hid (∀ j x, j < m → l[j]? = some x → ltK x.key k = true)) (fun s9 _ => n - (intOf s9).toNat)
      case atStart => exact ⟨0, by omega, rfl, rfl, Lib.hid (fun j x hj => by omega)⟩
      case round =>
        obtain ⟨m, hm, rfl, rfl, HPRE⟩ := hrel
        by_cases hin : m < n
        · obtain ⟨b, off, ha, _, _, hc⟩ := HV.out.get hin
          have hgl : l[m]? = some (l.getD m DObjS.z) := getD_some (by rw [HLN.out]; exact hin)
          obtain ⟨x, hx⟩ : ∃ x, x = l.getD m DObjS.z := ⟨_, rfl⟩
          rw [← hx] at hc hgl
          obtain ⟨q, hq⟩ : ∃ q, q = x.key := ⟨_, rfl⟩
          have k0 : wr.cell? ⟨b, off + m * 4, none⟩ = some (.string q) := hc 0 _ (by rw [hq]; rfl)
          have HGL := Lib.hid hgl
          have HQ := Lib.hid hq
          have zi : (m : Int) < (n : Int) := by omega
          have zi0 : (0 : Int) ≤ (m : Int) := by omega
          have wi : IntKind.i64.wrap ((m : Int) + 1) = (m : Int) + 1 := IntWalk.i64_in _ (by omega)
          subst ha
          clear hc hx hgl hq
          cases hlt : Op.bytesLess q.toList k.toList with
          | true =>
            have HP2 := Lib.hid (show ∀ j y, j < m + 1 → l[j]? = some y → ltK y.key k = true from fun j y hj hy => by
              rcases Nat.lt_or_ge j m with g | g
              · exact HPRE.out j y g hy
              · obtain rfl : j = m := by omega
                rw [HGL.out] at hy
                cases hy
                unfold ltK
                rw [← HQ.out]
                exact hlt)
            go_wp2_with fail
            go_roundw
            case rel => exact ⟨m + 1, by omega, by push_cast; rfl, trivial, HP2⟩
            case measure => simp only [intOf]; omega
          | false =>
            have HEND := Lib.hid (show ∀ y, l[m]? = some y → ltK y.key k = false from fun y hy => by
              rw [HGL.out] at hy
              cases hy
              unfold ltK
              rw [← HQ.out]
              exact hlt)
            clear HGL HQ
            go_upto_region 9 with fail
            have hst := to_dob (some ⟨b, off, none⟩) n oc m (by omega)
            have hsf := from_dob (some ⟨b, off, none⟩) n oc m (by omega)
            obtain ⟨a5, ha5⟩ : ∃ a5, a5 = (if oc = m then ((some ⟨b, off, none⟩) : Option Addr) else ((some ⟨b, off, none⟩) : Option Addr).map (·.add (m * 4))) := ⟨_, rfl⟩
            rw [← ha5] at hsf
            have HA5 := Lib.hid ha5
            clear ha5
            have HB5 := Lib.hid (show Below wr.heap.size wr (wr.alloc (.cells #[] 59)) from (Below.refl _ _).alloc (Nat.le_refl _) _)
            have HO5 := Lib.hid (show (wr.alloc (.cells #[] 59)).ownsRow wr.heap.size 59 4 (.slice (some ⟨wr.heap.size, 0, none⟩) 0 0) 0 (DObjS.flat []) from World.ownsRow_lit (base := wr.heap.size) (e := 59) (size := 4) wr #[] 0 (Nat.le_refl _) (by unfold maxLen; omega) rfl)
            have HV5 := Lib.hid (vec_takeS (HV.out.kept HB5.out) hm)
            have e0 := cell_blkD ((HB5.out.block S (Array.getElem?_eq_some_iff.1 HS9.out.blk).1).trans HS9.out.blk) (i := 0) (u := .slice σ.oa σ.objs.length σ.oc) rfl
            rw [HN.out.1, HN.out.2.1, HN.out.2.2] at e0
            go_wp2_with (at_builtin; refine wpList_append_dob rfl (.tmp 64) (.tmp 70) rfl wr.heap.size _ _ [] rfl HO5.out _ _ _ (l.take m) rfl HV5.out (by omega) HB5.out.size ?_)
            intro v6 w6 ho6 hg6
            have HB6 := Lib.hid (HB5.out.grown hg6 HB5.out.size (fun k hk => (HO5.out.lt k hk).1))
            have HO6 := Lib.hid (show w6.ownsRow wr.heap.size 59 4 v6 m (DObjS.flat (l.take m)) by simpa using ho6)
            have hk6 := (HB6.out.block b9 (Array.getElem?_eq_some_iff.1 HBX.out).1).trans HBX.out
            have x0 := cell_blkD hk6 (i := 0) (u := .string k) rfl
            have x1 := cell_blkD hk6 (i := 1) (u := .slice ta dn tc) rfl
            have x2 := cell_blkD hk6 (i := 2) (u := .int .i64 v1) rfl
            have x3 := cell_blkD hk6 (i := 3) (u := .int .i64 now) rfl
            have hb7 : Below w6.heap.size w6 (w6.alloc (.cells #[.string k, .slice ta dn tc, .int .i64 v1, .int .i64 now] 59)) := (Below.refl _ _).alloc (Nat.le_refl _) _
            have HO7 := Lib.hid (own_below HO6.out hb7)
            have HB7 := Lib.hid (HB6.out.trans (hb7.mono HB6.out.size))
            have HV7 := Lib.hid (vec_oneS DObjS w6 (⟨k, ta, dn, tc, data, v1, now⟩ : DObj) (fun _ => trivial) 59 (cs := #[.string k, .slice ta dn tc, .int .i64 v1, .int .i64 now]) rfl)
            clear ho6 hg6 hk6 hb7 HO5 HB5 HV5 e0
            go_wp2_with (at_builtin; refine wpList_append_dob rfl (.tmp 72) (.tmp 74) rfl wr.heap.size _ _ (l.take m) rfl HO7.out _ _ _ [(⟨k, ta, dn, tc, data, v1, now⟩ : DObj)] rfl HV7.out (by omega) HB7.out.size ?_)
            intro v8 w8 ho8 hg8
            have HB8 := Lib.hid (HB7.out.grown hg8 HB7.out.size (fun k hk => (HO7.out.lt k hk).1))
            have HO8 := Lib.hid ho8
            have HV8 := Lib.hid (show VecAt DObjS w8 a5 (n - m) (oc - m) (l.drop m) from by rw [HA5.out]; exact vec_dropS (S := DObjS) (HV.out.kept HB8.out) hm)
            have HS8 := Lib.hid (HS9.out.below HB8.out)
            have e0 := cell_blkD HS8.out.blk (i := 0) (u := .slice σ.oa σ.objs.length σ.oc) rfl
            rw [HN.out.1, HN.out.2.1, HN.out.2.2] at e0
            clear ho8 hg8 x0 x1 x2 x3 HO7 HB7 HV7 HO6 HB6
            go_wp2_with (at_builtin; refine wpList_append_dob rfl (.tmp 77) (.tmp 83) rfl wr.heap.size _ _ (l.take m ++ [(⟨k, ta, dn, tc, data, v1, now⟩ : DObj)]) rfl HO8.out _ _ _ (l.drop m) rfl HV8.out (by omega) HB8.out.size ?_)
            intro v9 wx ho9 hg9
            have HB9x := Lib.hid (HB8.out.grown hg9 HB8.out.size (fun k hk => (HO8.out.lt k hk).1))
            obtain ⟨a9, c9, rfl⟩ := own_sliceD ho9
            rw [show m + 1 + (n - m) = n + 1 from by omega] at ho9
            rw [show m + 1 + (n - m) = n + 1 from by omega]
            have HSX := Lib.hid (HS9.out.below HB9x.out)
            have e1 := cell_blkD HSX.out.blk (i := 0) (u := .slice σ.oa σ.objs.length σ.oc) rfl
            have f1 := frz_blkD HSX.out.blk 0
            have hPL := putL_new (o := (⟨k, ta, dn, tc, data, v1, now⟩ : DObj)) HF0.out (m := m) (by rw [HLN.out]; exact hm) HPRE.out HEND.out
            have hRWx := own_below HRW.out HB9x.out
            have hDST := HSX.out.objsLaid (a := a9) (c := c9) (N := n + 1) (os := putL l (⟨k, ta, dn, tc, data, v1, now⟩ : DObj)) (own_baseD (by rw [hPL]; simpa using ho9) HBX10.out) (by rw [hPL, List.length_append, List.length_append, List.length_take, List.length_drop, HLN.out, List.length_singleton]; omega) (fun o ho => by
              rcases putL_mem ho with g | g
              · exact HSX.out.obj o (by exact HLL.out ▸ g)
              · rw [g]; exact ⟨own_baseD hRWx HBW.out, HD2.out.byte, HD2.out.len, hdn⟩) (by rw [hPL, List.length_append, List.length_append, List.length_take, List.length_drop, HLN.out, List.length_singleton]; omega)
            obtain ⟨WN, hWN⟩ : ∃ WN, WN = wx.setCell ⟨S, 0, none⟩ (.slice a9 (n + 1) c9) := ⟨_, rfl⟩
            rw [← hWN] at hDST
            have HFN := Lib.hid (show Frm (DFo S σ) w WN from by rw [hWN]; exact (((HFR.out.below HB9.out).below HB9x.out).set (.inl (.inl rfl)) _ _))
            have HSN := Lib.hid (show Frm (fun b => b = S) wx WN from by rw [hWN]; exact (Frm.refl (fun b => b = S) wx).set (.inl rfl) _ _)
            have HBXN := Lib.hid (HSN.out.at ((HB9x.out.block b9 (Array.getElem?_eq_some_iff.1 HBX.out).1).trans HBX.out) (fun e => by have h1 := HBX.out; rw [e, HS9.out.blk] at h1; simp at h1))
            have HRBN := Lib.hid (HSN.out.at ((HB9x.out.block R (Array.getElem?_eq_some_iff.1 HRB10.out).1).trans HRB10.out) (fun e => by have h1 := HRB10.out; rw [e, HS9.out.blk] at h1; simp at h1))
            have HSTN := Lib.hid (show DStAt WN S base { σ with oa := a9, oc := c9, objs := putL σ.objs (⟨k, ta, dn, tc, data, v1, now⟩ : DObj), ver := v1 } from by rw [← HLL.out]; exact hDST)
            clear ho9 hg9 hst hsf HB8 HO8 HV8 HB9x hPL hRWx hDST e0
            go_upto_region 12 with fail
            rw [← hWN]
            clear hWN e1 f1
            have p2 := cell_blkD HBXN.out (i := 2) (u := .int .i64 v1) rfl
            have p3 := cell_blkD HBXN.out (i := 3) (u := .int .i64 now) rfl
            obtain ⟨⟨q0, q1, q2, q3, q4, q5, q6⟩, r0, r1, r2, r3, r4, r5, r6⟩ := rb_cells HRBN.out
            go_wp2_with fail
            clear p2 p3 q0 q1 q2 q3 q4 q5 q6 r0 r1 r2 r3 r4 r5 r6
            obtain ⟨W5, hW5⟩ : ∃ W5, W5 = setR WN R (.int .i64 0) (.slice none 0 0) (.int .i64 v1) (.int .i64 now) (.int .i64 0) (.slice none 0 0) (.bool false) := ⟨_, rfl⟩
            have hr5 := setR_at0 HRBN.out (.int .i64 0) (.slice none 0 0) (.int .i64 v1) (.int .i64 now) (.int .i64 0) (.slice none 0 0) (.bool false)
            have hF5 := (Frm.refl (fun b => b = R) WN).setR (R := R) (.inl rfl) (.int .i64 0) (.slice none 0 0) (.int .i64 v1) (.int .i64 now) (.int .i64 0) (.slice none 0 0) (.bool false)
            rw [← hW5] at hr5 hF5
            unfold setR at hW5
            rw [← hW5]
            obtain ⟨hv1, hnow⟩ := HVN.out
            have hfin := put_done HSTN.out HRBN.out (Nat.le_of_eq HE.out.2.2.symm) HFN.out hF5
            subst hv1 hnow
            exact bodyPost_ret (ret_rep rfl _ _ R rfl hr5) rfl ⟨rfl, _, _, _, _, hfin.1, hfin.2, fun b hb => Nat.le_trans HFR.out.size (own_blk_lt HRW.out hb).1⟩
        · have HEND := Lib.hid (show ∀ y, l[m]? = some y → ltK y.key k = false from fun y hy => by have h1 := (List.getElem?_eq_some_iff.1 hy).1; rw [HLN.out] at h1; omega)
          have zi : ¬ (m : Int) < (n : Int) := by omega
          go_upto_region 9 with fail
          have hst := to_dob oa n oc m (by omega)
          have hsf := from_dob oa n oc m (by omega)
          obtain ⟨a5, ha5⟩ : ∃ a5, a5 = (if oc = m then (oa : Option Addr) else (oa : Option Addr).map (·.add (m * 4))) := ⟨_, rfl⟩
          rw [← ha5] at hsf
          have HA5 := Lib.hid ha5
          clear ha5
          have HB5 := Lib.hid (show Below wr.heap.size wr (wr.alloc (.cells #[] 59)) from (Below.refl _ _).alloc (Nat.le_refl _) _)
          have HO5 := Lib.hid (show (wr.alloc (.cells #[] 59)).ownsRow wr.heap.size 59 4 (.slice (some ⟨wr.heap.size, 0, none⟩) 0 0) 0 (DObjS.flat []) from World.ownsRow_lit (base := wr.heap.size) (e := 59) (size := 4) wr #[] 0 (Nat.le_refl _) (by unfold maxLen; omega) rfl)
          have HV5 := Lib.hid (vec_takeS (HV.out.kept HB5.out) hm)
          have e0 := cell_blkD ((HB5.out.block S (Array.getElem?_eq_some_iff.1 HS9.out.blk).1).trans HS9.out.blk) (i := 0) (u := .slice σ.oa σ.objs.length σ.oc) rfl
          rw [HN.out.1, HN.out.2.1, HN.out.2.2] at e0
          go_wp2_with (at_builtin; refine wpList_append_dob rfl (.tmp 64) (.tmp 70) rfl wr.heap.size _ _ [] rfl HO5.out _ _ _ (l.take m) rfl HV5.out (by omega) HB5.out.size ?_)
          intro v6 w6 ho6 hg6
          have HB6 := Lib.hid (HB5.out.grown hg6 HB5.out.size (fun k hk => (HO5.out.lt k hk).1))
          have HO6 := Lib.hid (show w6.ownsRow wr.heap.size 59 4 v6 m (DObjS.flat (l.take m)) by simpa using ho6)
          have hk6 := (HB6.out.block b9 (Array.getElem?_eq_some_iff.1 HBX.out).1).trans HBX.out
          have x0 := cell_blkD hk6 (i := 0) (u := .string k) rfl
          have x1 := cell_blkD hk6 (i := 1) (u := .slice ta dn tc) rfl
          have x2 := cell_blkD hk6 (i := 2) (u := .int .i64 v1) rfl
          have x3 := cell_blkD hk6 (i := 3) (u := .int .i64 now) rfl
          have hb7 : Below w6.heap.size w6 (w6.alloc (.cells #[.string k, .slice ta dn tc, .int .i64 v1, .int .i64 now] 59)) := (Below.refl _ _).alloc (Nat.le_refl _) _
          have HO7 := Lib.hid (own_below HO6.out hb7)
          have HB7 := Lib.hid (HB6.out.trans (hb7.mono HB6.out.size))
          have HV7 := Lib.hid (vec_oneS DObjS w6 (⟨k, ta, dn, tc, data, v1, now⟩ : DObj) (fun _ => trivial) 59 (cs := #[.string k, .slice ta dn tc, .int .i64 v1, .int .i64 now]) rfl)
          clear ho6 hg6 hk6 hb7 HO5 HB5 HV5 e0
          go_wp2_with (at_builtin; refine wpList_append_dob rfl (.tmp 72) (.tmp 74) rfl wr.heap.size _ _ (l.take m) rfl HO7.out _ _ _ [(⟨k, ta, dn, tc, data, v1, now⟩ : DObj)] rfl HV7.out (by omega) HB7.out.size ?_)
          intro v8 w8 ho8 hg8
          have HB8 := Lib.hid (HB7.out.grown hg8 HB7.out.size (fun k hk => (HO7.out.lt k hk).1))
          have HO8 := Lib.hid ho8
          have HV8 := Lib.hid (show VecAt DObjS w8 a5 (n - m) (oc - m) (l.drop m) from by rw [HA5.out]; exact vec_dropS (S := DObjS) (HV.out.kept HB8.out) hm)
          have HS8 := Lib.hid (HS9.out.below HB8.out)
          have e0 := cell_blkD HS8.out.blk (i := 0) (u := .slice σ.oa σ.objs.length σ.oc) rfl
          rw [HN.out.1, HN.out.2.1, HN.out.2.2] at e0
          clear ho8 hg8 x0 x1 x2 x3 HO7 HB7 HV7 HO6 HB6
          go_wp2_with (at_builtin; refine wpList_append_dob rfl (.tmp 77) (.tmp 83) rfl wr.heap.size _ _ (l.take m ++ [(⟨k, ta, dn, tc, data, v1, now⟩ : DObj)]) rfl HO8.out _ _ _ (l.drop m) rfl HV8.out (by omega) HB8.out.size ?_)
          intro v9 wx ho9 hg9
          have HB9x := Lib.hid (HB8.out.grown hg9 HB8.out.size (fun k hk => (HO8.out.lt k hk).1))
          obtain ⟨a9, c9, rfl⟩ := own_sliceD ho9
          rw [show m + 1 + (n - m) = n + 1 from by omega] at ho9
          rw [show m + 1 + (n - m) = n + 1 from by omega]
          have HSX := Lib.hid (HS9.out.below HB9x.out)
          have e1 := cell_blkD HSX.out.blk (i := 0) (u := .slice σ.oa σ.objs.length σ.oc) rfl
          have f1 := frz_blkD HSX.out.blk 0
          have hPL := putL_new (o := (⟨k, ta, dn, tc, data, v1, now⟩ : DObj)) HF0.out (m := m) (by rw [HLN.out]; exact hm) HPRE.out HEND.out
          have hRWx := own_below HRW.out HB9x.out
          have hDST := HSX.out.objsLaid (a := a9) (c := c9) (N := n + 1) (os := putL l (⟨k, ta, dn, tc, data, v1, now⟩ : DObj)) (own_baseD (by rw [hPL]; simpa using ho9) HBX10.out) (by rw [hPL, List.length_append, List.length_append, List.length_take, List.length_drop, HLN.out, List.length_singleton]; omega) (fun o ho => by
            rcases putL_mem ho with g | g
            · exact HSX.out.obj o (by exact HLL.out ▸ g)
            · rw [g]; exact ⟨own_baseD hRWx HBW.out, HD2.out.byte, HD2.out.len, hdn⟩) (by rw [hPL, List.length_append, List.length_append, List.length_take, List.length_drop, HLN.out, List.length_singleton]; omega)
          obtain ⟨WN, hWN⟩ : ∃ WN, WN = wx.setCell ⟨S, 0, none⟩ (.slice a9 (n + 1) c9) := ⟨_, rfl⟩
          rw [← hWN] at hDST
          have HFN := Lib.hid (show Frm (DFo S σ) w WN from by rw [hWN]; exact (((HFR.out.below HB9.out).below HB9x.out).set (.inl (.inl rfl)) _ _))
          have HSN := Lib.hid (show Frm (fun b => b = S) wx WN from by rw [hWN]; exact (Frm.refl (fun b => b = S) wx).set (.inl rfl) _ _)
          have HBXN := Lib.hid (HSN.out.at ((HB9x.out.block b9 (Array.getElem?_eq_some_iff.1 HBX.out).1).trans HBX.out) (fun e => by have h1 := HBX.out; rw [e, HS9.out.blk] at h1; simp at h1))
          have HRBN := Lib.hid (HSN.out.at ((HB9x.out.block R (Array.getElem?_eq_some_iff.1 HRB10.out).1).trans HRB10.out) (fun e => by have h1 := HRB10.out; rw [e, HS9.out.blk] at h1; simp at h1))
          have HSTN := Lib.hid (show DStAt WN S base { σ with oa := a9, oc := c9, objs := putL σ.objs (⟨k, ta, dn, tc, data, v1, now⟩ : DObj), ver := v1 } from by rw [← HLL.out]; exact hDST)
          clear ho9 hg9 hst hsf HB8 HO8 HV8 HB9x hPL hRWx hDST e0
          go_upto_region 12 with fail
          rw [← hWN]
          clear hWN e1 f1
          have p2 := cell_blkD HBXN.out (i := 2) (u := .int .i64 v1) rfl
          have p3 := cell_blkD HBXN.out (i := 3) (u := .int .i64 now) rfl
          obtain ⟨⟨q0, q1, q2, q3, q4, q5, q6⟩, r0, r1, r2, r3, r4, r5, r6⟩ := rb_cells HRBN.out
          go_wp2_with fail
          clear p2 p3 q0 q1 q2 q3 q4 q5 q6 r0 r1 r2 r3 r4 r5 r6
          obtain ⟨W5, hW5⟩ : ∃ W5, W5 = setR WN R (.int .i64 0) (.slice none 0 0) (.int .i64 v1) (.int .i64 now) (.int .i64 0) (.slice none 0 0) (.bool false) := ⟨_, rfl⟩
          have hr5 := setR_at0 HRBN.out (.int .i64 0) (.slice none 0 0) (.int .i64 v1) (.int .i64 now) (.int .i64 0) (.slice none 0 0) (.bool false)
          have hF5 := (Frm.refl (fun b => b = R) WN).setR (R := R) (.inl rfl) (.int .i64 0) (.slice none 0 0) (.int .i64 v1) (.int .i64 now) (.int .i64 0) (.slice none 0 0) (.bool false)
          rw [← hW5] at hr5 hF5
          unfold setR at hW5
          rw [← hW5]
          obtain ⟨hv1, hnow⟩ := HVN.out
          have hfin := put_done HSTN.out HRBN.out (Nat.le_of_eq HE.out.2.2.symm) HFN.out hF5
          subst hv1 hnow
          exact bodyPost_ret (ret_rep rfl _ _ R rfl hr5) rfl ⟨rfl, _, _, _, _, hfin.1, hfin.2, fun b hb => Nat.le_trans HFR.out.size (own_blk_lt HRW.out hb).1⟩
    · have hAK : atK ({ σ with ver := v1 } : DSto).objs k = (i : Int) := by unfold atK; rw [hfi]
      rw [hAK]
      have hil : i < σ.objs.length := (List.findIdx?_eq_some_iff_getElem.1 hfi).1
      obtain ⟨g, cur, hoa, hgb, hgk, hcs⟩ := HS9.out.orow_parts (Nat.lt_of_le_of_lt (Nat.zero_le _) hil)
      obtain ⟨n, hn⟩ : ∃ n, n = σ.objs.length := ⟨_, rfl⟩
      obtain ⟨oc, hoc⟩ : ∃ oc, oc = σ.oc := ⟨_, rfl⟩
      have c0 : w10.cell? ⟨S, 0, none⟩ = some (.slice (some ⟨g, 0, none⟩) n oc) := by rw [hn, hoc, ← hoa]; exact cell_blkD HS9.out.blk (i := 0) rfl
      have x0 := cell_blkD HBX.out (i := 0) (u := .string k) rfl
      have x1 := cell_blkD HBX.out (i := 1) (u := .slice ta dn tc) rfl
      have x2 := cell_blkD HBX.out (i := 2) (u := .int .i64 v1) rfl
      have x3 := cell_blkD HBX.out (i := 3) (u := .int .i64 now) rfl
      have y0 := frz_blkD hgk (i * 4)
      have y1 := frz_blkD hgk (i * 4 + 1)
      have y2 := frz_blkD hgk (i * 4 + 2)
      have y3 := frz_blkD hgk (i * 4 + 3)
      obtain ⟨cq0, cq1, cq2, cq3⟩ : (∃ q, w10.cell? ⟨g, i * 4, none⟩ = some (.string q)) ∧ (∃ a d c, w10.cell? ⟨g, i * 4 + 1, none⟩ = some (.slice a d c)) ∧ (∃ z, w10.cell? ⟨g, i * 4 + 2, none⟩ = some (.int .i64 z)) ∧ (∃ z, w10.cell? ⟨g, i * 4 + 3, none⟩ = some (.int .i64 z)) := HS9.out.obj_cells hoa hil
      obtain ⟨q0, z0⟩ := cq0
      obtain ⟨qa, qd, qc, z1⟩ := cq1
      obtain ⟨q2, z2⟩ := cq2
      obtain ⟨q3, z3⟩ := cq3
      have zi : (i : Int) < (n : Int) := by rw [hn]; omega
      have zi0 : (0 : Int) ≤ (i : Int) := by omega
      have HN := Lib.hid (And.intro hn (And.intro hoc (And.intro hil (And.intro hfi (And.intro hoa (And.intro hgk hcs))))))
      clear hn hoc hil hfi hoa hgk hcs hAK
      go_upto_region 5 with fail
      go_region
      obtain ⟨WN, hWN⟩ : ∃ WN, WN = ((((w10.setCell ⟨g, i * 4, none⟩ (.string k)).setCell ⟨g, i * 4 + 1, none⟩ (.slice ta dn tc)).setCell ⟨g, i * 4 + 2, none⟩ (.int .i64 v1)).setCell ⟨g, i * 4 + 3, none⟩ (.int .i64 now)).drew := ⟨_, rfl⟩
      rw [← hWN]
      obtain ⟨hn, hoc, hil, hfi, hoa, hgk, hcs⟩ := HN.out
      have hDST := HS9.out.inPlace (w' := WN) hoa hgk hil (o := ⟨k, ta, dn, tc, data, v1, now⟩) HRW.out HBW.out HD2.out.byte HD2.out.len hdn (by rw [hWN]; rfl)
      have hPL : putL σ.objs (⟨k, ta, dn, tc, data, v1, now⟩ : DObj) = σ.objs.set i ⟨k, ta, dn, tc, data, v1, now⟩ := putL_old hfi
      have HSTN := Lib.hid (show DStAt WN S base { σ with ver := v1, objs := putL σ.objs ⟨k, ta, dn, tc, data, v1, now⟩ } from by rw [hPL]; exact hDST)
      have hFg : ∀ {F : Nat → Prop} {a : World}, Frm F a w10 → (F g ∨ a.heap.size ≤ g) → Frm F a WN := fun {F a} h0 hp => by rw [hWN]; exact ((((h0.set hp _ _).set hp _ _).set hp _ _).set hp _ _).drew
      have HFN := Lib.hid (hFg (HFR.out.below HB9.out) (.inl (.inr (by rw [show σ.oa = some ⟨g, 0, none⟩ from hoa]; rfl))))
      have HSN := Lib.hid (hFg (Frm.refl (fun b => b = g) w10) (.inl rfl))
      have HRB10 := Lib.hid ((HB9.out.block R (Array.getElem?_eq_some_iff.1 HRB.out).1).trans HRB.out)
      have HBXN := Lib.hid (HSN.out.at HBX.out (fun e => by have h1 := HB9L.out; have h2 := (own_blk_lt HS2.out.orow (b := g) (by rw [show σ.oa = some ⟨g, 0, none⟩ from hoa]; rfl)).2; omega))
      have HRBN := Lib.hid (HSN.out.at HRB10.out (fun e => by have h1 := HRB10.out; rw [e, hgk] at h1; simp at h1))
      clear hn hoc hil hfi hoa hgk hcs hDST hPL hFg hWN c0 x0 x1 x2 x3 y0 y1 y2 y3 z0 z1 z2 z3
      have p2 := cell_blkD HBXN.out (i := 2) (u := .int .i64 v1) rfl
      have p3 := cell_blkD HBXN.out (i := 3) (u := .int .i64 now) rfl
      obtain ⟨⟨q0, q1, q2, q3, q4, q5, q6⟩, r0, r1, r2, r3, r4, r5, r6⟩ := rb_cells HRBN.out
      go_wp2_with fail
      clear p2 p3 q0 q1 q2 q3 q4 q5 q6 r0 r1 r2 r3 r4 r5 r6
      obtain ⟨W5, hW5⟩ : ∃ W5, W5 = setR WN R (.int .i64 0) (.slice none 0 0) (.int .i64 v1) (.int .i64 now) (.int .i64 0) (.slice none 0 0) (.bool false) := ⟨_, rfl⟩
      have hr5 := setR_at0 HRBN.out (.int .i64 0) (.slice none 0 0) (.int .i64 v1) (.int .i64 now) (.int .i64 0) (.slice none 0 0) (.bool false)
      have hF5 := (Frm.refl (fun b => b = R) WN).setR (R := R) (.inl rfl) (.int .i64 0) (.slice none 0 0) (.int .i64 v1) (.int .i64 now) (.int .i64 0) (.slice none 0 0) (.bool false)
      rw [← hW5] at hr5 hF5
      unfold setR at hW5
      rw [← hW5]
      obtain ⟨hv1, hnow⟩ := HVN.out
      have hfin := put_done HSTN.out HRBN.out (Nat.le_of_eq HE.out.2.2.symm) HFN.out hF5
      subst hv1 hnow
      exact bodyPost_ret (ret_rep rfl _ _ R rfl hr5) rfl ⟨rfl, _, _, _, _, hfin.1, hfin.2, fun b hb => Nat.le_trans HFR.out.size (own_blk_lt HRW.out hb).1⟩
end Go.Proofs.YtjafagfhkpaciaaGreat
end PkSP2_2
section PkSP2_3
/- isKey, walked: a range over a text. -/
namespace Go.Proofs.YtjafagfhkpaciaaGreat
open Go.RowKit
set_option linter.unusedVariables false

theorem key_bad {s : ByteArray} {pos : Nat} (h : pos < s.size) (hb : okB (s[pos]'h) = false) : isKeyB s = false := by
  unfold isKeyB
  rw [Bool.and_eq_false_iff]
  right
  rw [Bool.eq_false_iff]
  intro hall
  have h2 := List.all_eq_true.1 hall (s[pos]'h) (by
    have : s[pos]'h = s.data.toList[pos]'(by simpa using h) := rfl
    rw [this]
    exact List.getElem_mem _)
  rw [h2] at hb; cases hb
theorem key_snoc {s : ByteArray} {pos : Nat} (h : pos < s.size) (ha : (s.data.toList.take pos).all okB = true) (hb : okB (s[pos]'h) = true) : (s.data.toList.take (pos + 1)).all okB = true := by
  rw [List.take_succ_eq_append_getElem (by simpa using h), List.all_append, ha]
  have : s.data.toList[pos]'(by simpa using h) = s[pos]'h := rfl
  simp [this, hb]
theorem byte_lt (s : ByteArray) (pos : Nat) (h : pos < s.size) : (s[pos]'h).toNat < 256 := (s[pos]'h).toNat_lt
set_option maxRecDepth 100000 in
set_option maxHeartbeats 2000000 in
theorem isKey_any (s : ByteArray) (w : World) :
    Calls Tryz.prog 41 #[.string s] w fun e w' => e = .returned (.bool (isKeyB s)) ∧ Below w.heap.size w w' := by
  by_cases h1 : s.size < 1
  case pos =>
    have z1 : (s.size : Int) < 1 := by omega
    have HR := Lib.hid (show isKeyB s = false from by unfold isKeyB; rw [decide_eq_false (by omega)]; rfl)
    clear h1
    go_enter Tryz.func41, Tryz.ntmps41
    go_wp2_with fail
    go_ret
    rw [HR.out]
    exact ⟨rfl, Below.refl _ _⟩
  have z1 : ¬ (s.size : Int) < 1 := by omega
  have z1b : decide ((s.size : Int) < 1) = false := decide_eq_false z1
  by_cases h2 : 40 < s.size
  case pos =>
    have z2 : (40 : Int) < (s.size : Int) := by omega
    have HR := Lib.hid (show isKeyB s = false from by unfold isKeyB; rw [decide_eq_false (show ¬ s.size ≤ 40 by omega)]; simp)
    clear h1 h2
    go_enter Tryz.func41, Tryz.ntmps41
    go_wp2_with fail
    go_ret
    rw [HR.out]
    exact ⟨rfl, Below.refl _ _⟩
  have z2 : ¬ (40 : Int) < (s.size : Int) := by omega
  have z2b : decide ((40 : Int) < (s.size : Int)) = false := decide_eq_false z2
  have HS1 := Lib.hid h1
  have HS2 := Lib.hid h2
  clear h1 h2
  go_enter Tryz.func41, Tryz.ntmps41
  go_wp2_with fail
  go_loopw [4] (fun s4 wr => ∃ pos : Nat, pos ≤ s.size ∧ wr = w.iter s pos ∧ Hid ((s.data.toList.take pos).all okB = true)) (fun _ wr => s.size - wr.iterPos w.heap.size)
  case atStart => exact ⟨0, by omega, rfl, Lib.hid rfl⟩
  case round =>
    obtain ⟨pos, hpos, rfl, HA⟩ := hrel
    have HB := Lib.hid (show ∀ p, Below w.heap.size w (w.iter s p) from fun p => (Below.refl _ _).alloc (Nat.le_refl _) _)
    by_cases hp : pos < s.size
    case neg =>
      have hnx := fun ty => run_next_end (P := Tryz.prog) w s pos ty hp
      have HR := Lib.hid (show isKeyB s = true from by
        unfold isKeyB
        have h3 := HA.out
        have h9 : s.data.toList.length = s.size := by simp
        rw [show pos = s.data.toList.length from by omega, List.take_length] at h3
        have := HS1.out
        have := HS2.out
        rw [h3, decide_eq_true (show 1 ≤ s.size by omega), decide_eq_true (show s.size ≤ 40 by omega)]
        rfl)
      go_wp2_with fail
      go_ret
      rw [HR.out]
      exact ⟨rfl, HB.out _⟩
    case pos =>
      by_cases hb : (s[pos]'hp).toNat < 128
      case pos =>
        have hnx := fun ty => run_next_ascii (P := Tryz.prog) w s pos ty hp hb
        have HI := Lib.hid (World.iterPos_iter w s pos)
        have HJ := Lib.hid (World.iterPos_iter w s (pos + 1))
        obtain ⟨b, hbb⟩ : ∃ b : Nat, b = (s[pos]'hp).toNat := ⟨_, rfl⟩
        by_cases hok : okB (s[pos]'hp) = true
        case pos =>
          have HN := Lib.hid (key_snoc hp HA.out hok)
          have hok2 : 33 ≤ b ∧ b ≤ 126 := by unfold okB at hok; rw [hbb]; simpa using hok
          have y1 : ¬ (b : Int) < 33 := by omega
          have y2 : ¬ (126 : Int) < (b : Int) := by omega
          have y1b : decide ((b : Int) < 33) = false := decide_eq_false y1
          have y2b : decide ((126 : Int) < (b : Int)) = false := decide_eq_false y2
          rw [← hbb] at hnx
          clear hbb hok hb HA
          go_wp2_with fail
          go_roundw
          case rel => exact ⟨pos + 1, by omega, rfl, HN⟩
          case measure => rw [HI.out, HJ.out]; omega
        case neg =>
          have HR := Lib.hid (key_bad hp (by simpa using hok))
          have hok2 : b < 33 ∨ 126 < b := by
            have h3 : okB (s[pos]'hp) = false := by simpa using hok
            unfold okB at h3
            rw [hbb]
            simp at h3
            omega
          rw [← hbb] at hnx
          clear hbb hok hb HA
          rcases hok2 with g | g
          · have y1 : (b : Int) < 33 := by omega
            have y1b : decide ((b : Int) < 33) = true := decide_eq_true y1
            go_wp2_with fail
            go_ret
            rw [HR.out]
            exact ⟨rfl, HB.out _⟩
          · have y1 : ¬ (b : Int) < 33 := by omega
            have y1b : decide ((b : Int) < 33) = false := decide_eq_false y1
            have y2 : (126 : Int) < (b : Int) := by omega
            have y2b : decide ((126 : Int) < (b : Int)) = true := decide_eq_true y2
            go_wp2_with fail
            go_ret
            rw [HR.out]
            exact ⟨rfl, HB.out _⟩
      case neg =>
        have hnx := fun ty => run_next_any (P := Tryz.prog) w s pos ty hp
        have hd := (decode_high s pos hp (by omega)).1
        have HR := Lib.hid (key_bad hp (by unfold okB; rw [decide_eq_false (show ¬ (s[pos]'hp).toNat ≤ 126 by omega)]; simp))
        obtain ⟨r, hr⟩ : ∃ r : Nat, r = (Utf8.decode s pos).1 := ⟨_, rfl⟩
        rw [← hr] at hnx hd
        have y1 : ¬ (r : Int) < 33 := by omega
        have y1b : decide ((r : Int) < 33) = false := decide_eq_false y1
        have y2 : (126 : Int) < (r : Int) := by omega
        have y2b : decide ((126 : Int) < (r : Int)) = true := decide_eq_true y2
        clear hr HA hb
        go_wp2_with fail
        go_ret
        rw [HR.out]
        exact ⟨rfl, HB.out _⟩
end Go.Proofs.YtjafagfhkpaciaaGreat
end PkSP2_3
section PkSP2_4
/- The document's Key, walked: the program's isKey. -/
namespace Go.Proofs.YtjafagfhkpaciaaGreat
open Go.RowKit
set_option linter.unusedVariables false

set_option maxRecDepth 100000 in
set_option maxHeartbeats 2000000 in
theorem dkey_any (s : ByteArray) (w : World) :
    Calls Tryz.prog 28 #[.string s] w fun e w' => e = .returned (.bool (isKeyB s)) ∧ w' = w := by
  by_cases h1 : s.size < 1
  case pos =>
    have z1 : (s.size : Int) < 1 := by omega
    have HR := Lib.hid (show isKeyB s = false from by unfold isKeyB; rw [decide_eq_false (by omega)]; rfl)
    clear h1
    go_enter Tryz.func28, Tryz.ntmps28
    go_wp2_with fail
    go_ret
    rw [HR.out]
    exact ⟨rfl, rfl⟩
  have z1 : ¬ (s.size : Int) < 1 := by omega
  have z1b : decide ((s.size : Int) < 1) = false := decide_eq_false z1
  by_cases h2 : 40 < s.size
  case pos =>
    have z2 : (40 : Int) < (s.size : Int) := by omega
    have HR := Lib.hid (show isKeyB s = false from by unfold isKeyB; rw [decide_eq_false (show ¬ s.size ≤ 40 by omega)]; simp)
    clear h1 h2
    go_enter Tryz.func28, Tryz.ntmps28
    go_wp2_with fail
    go_ret
    rw [HR.out]
    exact ⟨rfl, rfl⟩
  have z2 : ¬ (40 : Int) < (s.size : Int) := by omega
  have z2b : decide ((40 : Int) < (s.size : Int)) = false := decide_eq_false z2
  have HS1 := Lib.hid h1
  have HS2 := Lib.hid h2
  have hs40 : s.size ≤ 40 := by omega
  clear h1 h2
  go_enter Tryz.func28, Tryz.ntmps28
  go_wp2_with fail
  go_loopw [3] (fun s3 wr => ∃ k : Nat, k ≤ s.size ∧ s3 = .int .i64 (k : Int) ∧ wr = w ∧ Hid ((s.data.toList.take k).all okB = true)) (fun s3 _ => s.size - (intOf s3).toNat)
  case atStart => exact ⟨0, by omega, rfl, rfl, Lib.hid rfl⟩
  case round =>
    obtain ⟨k, hk, rfl, rfl, HA⟩ := hrel
    by_cases hkn : k < s.size
    case neg =>
      have zk : ¬ (k : Int) < (s.size : Int) := by omega
      have HR := Lib.hid (show isKeyB s = true from by
        unfold isKeyB
        have h3 := HA.out
        have h9 : s.data.toList.length = s.size := by simp
        rw [show k = s.data.toList.length from by omega, List.take_length] at h3
        have := HS1.out
        have := HS2.out
        rw [h3, decide_eq_true (show 1 ≤ s.size by omega), decide_eq_true (show s.size ≤ 40 by omega)]
        rfl)
      go_wp2_with fail
      go_ret
      rw [HR.out]
      exact ⟨rfl, rfl⟩
    case pos =>
      have zk : (k : Int) < (s.size : Int) := by omega
      have zk0 : (0 : Int) ≤ (k : Int) := by omega
      have wk : IntKind.i64.wrap ((k : Int) + 1) = (k : Int) + 1 := IntWalk.i64_in _ (by omega)
      have HBD := Lib.hid (fun (hb : okB (s[k]'hkn) = false) => key_bad hkn hb)
      have HSN := Lib.hid (fun (hb : okB (s[k]'hkn) = true) => key_snoc hkn HA.out hb)
      obtain ⟨x, hx⟩ : ∃ x, x = (s[k]'hkn) := ⟨_, rfl⟩
      rw [← hx] at HBD HSN
      go_wp2_with fail
      all_goals first
        | (have HX := HBD.out (by rw [hx]; unfold okB; rw [Bool.and_eq_false_iff, decide_eq_false_iff_not, decide_eq_false_iff_not]; omega)
           go_ret
           rw [HX]
           exact ⟨rfl, rfl⟩)
        | (have HX := HSN.out (by rw [hx]; unfold okB; rw [Bool.and_eq_true, decide_eq_true_eq, decide_eq_true_eq]; omega)
           exact ⟨⟨k + 1, by omega, by push_cast; rfl, trivial, Lib.hid HX⟩, by simp only [intOf]; omega⟩)
end Go.Proofs.YtjafagfhkpaciaaGreat
end PkSP2_4
section PkSP2_5
/- The document's store: bad, walked. -/
namespace Go.Proofs.YtjafagfhkpaciaaGreat
open Go.RowKit
set_option linter.unusedVariables false

/-- a reply -/
def repA (er : Int) (da : Option Addr) (dn dc : Nat) (ver bo id : Int) (la : Option Addr) (ln lc : Nat) (mo : Bool) : Array Value := #[.int .i64 er, .slice da dn dc, .int .i64 ver, .int .i64 bo, .int .i64 id, .slice la ln lc, .bool mo]
set_option maxRecDepth 100000 in
theorem dbad_any (x : Int) (w : World) :
    Calls Tryz.prog 29 #[.int .i64 x] w fun e w' => e = .returned (.agg (repA x none 0 0 0 0 0 none 0 0 false)) ∧ Below w.heap.size w w' := by
  unfold repA
  have q := fun j u (h : (#[.int .i64 x, .slice none 0 0, .int .i64 0, .int .i64 0, .int .i64 0, .slice none 0 0, .bool false] : Array Value)[j]? = some u) => cell_blkD (heap_alloc_newD w (.cells #[.int .i64 x, .slice none 0 0, .int .i64 0, .int .i64 0, .int .i64 0, .slice none 0 0, .bool false] 43)) h
  have q0 := q 0 _ rfl
  have q1 := q 1 _ rfl
  have q2 := q 2 _ rfl
  have q3 := q 3 _ rfl
  have q4 := q 4 _ rfl
  have q5 := q 5 _ rfl
  have q6 := q 6 _ rfl
  have HB := Lib.hid (show Below w.heap.size w (w.alloc (.cells #[.int .i64 x, .slice none 0 0, .int .i64 0, .int .i64 0, .int .i64 0, .slice none 0 0, .bool false] 43)) from (Below.refl _ _).alloc (Nat.le_refl _) _)
  clear q
  go_enter Tryz.func29, Tryz.ntmps29
  go_wp2_with fail
  exact bodyPost_ret (v := .agg #[.int .i64 x, .slice none 0 0, .int .i64 0, .int .i64 0, .int .i64 0, .slice none 0 0, .bool false]) (by simp [results, Tryz.results29, go_sem, q0, q1, q2, q3, q4, q5, q6]) rfl ⟨rfl, HB.out⟩
/-- does a text begin with another one -/
def begD (v x : ByteArray) : Bool := decide (v.size ≤ x.size) && ((x.extract 0 v.size).toList == v.toList)
theorem begD_is (v x : ByteArray) : begD v x = Lib.hasPrefix x.data.toList v.data.toList := by
  have hl : (x.extract 0 v.size).toList = x.data.toList.take v.data.toList.length := by
    rw [ByteArray.toList_eq]; simp
  unfold begD Lib.hasPrefix
  rw [hl, ByteArray.toList_eq, Bool.eq_iff_iff, Bool.and_eq_true, decide_eq_true_eq, beq_iff_eq, List.isPrefixOf_iff_prefix, List.prefix_iff_eq_take]
  constructor
  · rintro ⟨_, h⟩; exact h.symm
  · intro h
    refine ⟨?_, h.symm⟩
    have := congrArg List.length h
    rw [List.length_take] at this
    have h1 : v.data.toList.length = v.size := by simp
    have h2 : x.data.toList.length = x.size := by simp
    omega
set_option maxRecDepth 100000 in
set_option maxHeartbeats 1000000 in
theorem dbegins_any (x v : ByteArray) (hx : x.size ≤ 1000000000000000) (hv : v.size ≤ 1000000000000000) (w : World) :
    Calls Tryz.prog 32 #[.string x, .string v] w fun e w' => e = .returned (.bool (begD v x)) ∧ w' = w := by
  by_cases h : v.size ≤ x.size
  · have HR := Lib.hid (show begD v x = ((x.extract 0 v.size).toList == v.toList) by unfold begD; rw [decide_eq_true h, Bool.true_and])
    have hi : (v.size : Int) ≤ (x.size : Int) := by omega
    go_enter Tryz.func32, Tryz.ntmps32
    go_wp2_with fail
    go_ret
    rw [HR.out]; exact ⟨rfl, rfl⟩
  · have HR := Lib.hid (show begD v x = false by unfold begD; rw [decide_eq_false h]; rfl)
    have hi : (x.size : Int) < (v.size : Int) := by omega
    go_enter Tryz.func32, Tryz.ntmps32
    go_wp2_with fail
    go_ret
    rw [HR.out]; exact ⟨rfl, rfl⟩
end Go.Proofs.YtjafagfhkpaciaaGreat
end PkSP2_5
section PkSP2_6
/- The document's part and complete, plainly; a method's beginning; an upload laid in its place. -/
namespace Go.Proofs.YtjafagfhkpaciaaGreat
open Go.RowKit
set_option linter.unusedVariables false

/-- a method's beginning: the call's box, the reply's -/
structure DEnt (w W : World) (S base : Nat) (σ : DSto) (cs : Array Value) : Prop where
  st : DStAt W S base σ
  cb : W.heap[w.heap.size]? = some (.cells cs 34 (0, 0))
  rb : W.heap[w.heap.size + 1]? = some (.cells zrep 43 (0, 0))
  sz : W.heap.size = w.heap.size + 2
  bel : Below w.heap.size w W
theorem dent_mk {w : World} {S base : Nat} {σ : DSto} (h : DStAt w S base σ) (cs : Array Value) : DEnt w ((w.alloc (.cells cs 34)).alloc (.cells zrep 43)) S base σ cs := by
  have h1 : Below w.heap.size w ((w.alloc (.cells cs 34)).alloc (.cells zrep 43)) := ((Below.refl _ _).alloc (Nat.le_refl _) _).alloc (by simp) _
  have e1 : (w.alloc (.cells cs 34)).heap.size = w.heap.size + 1 := by simp
  refine ⟨h.below h1, ?_, ?_, by simp, h1⟩
  · exact (Below.heap_alloc _ _ _ (by rw [e1]; omega)).trans (heap_new w _)
  · have := heap_new (w.alloc (.cells cs 34)) (.cells zrep 43)
    rwa [e1] at this
/-- the parts of another number; the part of this one -/
def prtF (l : List DPrt) (nn : Int) : List DPrt := l.filter fun p => !decide (p.n = nn)
def hadP (l : List DPrt) (nn : Int) : Nat := l.foldl (fun h p => if p.n = nn then p.dn else h) 0
theorem prtF_succ {l : List DPrt} {nn : Int} {i : Nat} {x : DPrt} (h : l[i]? = some x) : prtF (l.take (i + 1)) nn = if x.n = nn then prtF (l.take i) nn else prtF (l.take i) nn ++ [x] := by
  unfold prtF
  rw [List.take_add_one, h, Option.toList_some, List.filter_append]
  by_cases e : x.n = nn
  · rw [if_pos e]; simp [e]
  · rw [if_neg e]; simp [e]
theorem hadP_succ {l : List DPrt} {nn : Int} {i : Nat} {x : DPrt} (h : l[i]? = some x) : hadP (l.take (i + 1)) nn = if x.n = nn then x.dn else hadP (l.take i) nn := by
  unfold hadP
  rw [List.take_add_one, h, Option.toList_some, List.foldl_append]
  rfl
theorem hadP_le {l : List DPrt} {nn : Int} {B : Nat} (h : ∀ p ∈ l, p.dn ≤ B) : hadP l nn ≤ B := by
  unfold hadP
  have : ∀ (l : List DPrt) (z : Nat), z ≤ B → (∀ p ∈ l, p.dn ≤ B) → l.foldl (fun h p => if p.n = nn then p.dn else h) z ≤ B := by
    intro l
    induction l with
    | nil => intro z hz _; exact hz
    | cons a r ih =>
      intro z hz hl
      rw [List.foldl_cons]
      refine ih _ ?_ (fun p hp => hl p (List.mem_cons_of_mem _ hp))
      split
      · exact hl a List.mem_cons_self
      · exact hz
  exact this l 0 (Nat.zero_le _) h
def prtDE (σ : DSto) (u : DUpl) (nn : Int) (n : Nat) : Int := if nn < 1 ∨ 32 < nn then 1 else if 262144 < n then 5 else if 4194304 < ((osum σ.objs + usum σ.ups : Nat) : Int) - (hadP u.parts nn : Int) + (n : Int) then 9 else 0
/-- what comes of a part -/
def PrtDP (w : World) (S base : Nat) (σ : DSto) (i : Nat) (u : DUpl) (nn : Int) (n : Nat) (xs : List Nat) (e : Ending) (w' : World) : Prop :=
  Frm (DF S σ) w w' ∧ (prtDE σ u nn n ≠ 0 → e = .returned (rep0 (prtDE σ u nn n)) ∧ DStAt w' S base σ) ∧
  (prtDE σ u nn n = 0 → e = .returned (rep0 0) ∧ ∃ ua uc pa pn pc da dc, DStAt w' S base { σ with ua := ua, uc := uc, ups := σ.ups.set i { u with pa := pa, pn := pn, pc := pc, parts := prtF u.parts nn ++ [⟨nn, da, n, dc, xs⟩] } } ∧ (∀ b, blkOf da = some b → w.heap.size ≤ b))
theorem DStAt.uplInPlace {w w' : World} {S base : Nat} {σ : DSto} (h : DStAt w S base σ) {g : Nat} {cur : Array Value} (hua : σ.ua = some ⟨g, 0, none⟩) (hgk : w.heap[g]? = some (.cells cur 65 (0, 0))) {i : Nat} (hil : i < σ.ups.length) {u : DUpl} (hu : UplOk w base u) (hw : w'.heap = (w.setCells g (i * 4) (DUplS.f u)).heap) : DStAt w' S base { σ with ups := σ.ups.set i u } := by
  have hl : (σ.ups.set i u).length = σ.ups.length := List.length_set
  have hoth : ∀ b, b ≠ g → w'.heap[b]? = w.heap[b]? := fun b hb => by rw [hw]; exact setCells_other _ _ _ _ _ hb
  have hrow : ∀ {n c N k : Nat} {e : TypeId} {a : Option Addr} {xs : List Value}, w.ownsRow base e k (.slice a n c) N xs → e ≠ 65 → w'.ownsRow base e k (.slice a n c) N xs := fun {n c N k e a xs} hx he => own_same hx fun b hb => hoth b fun eg => by
    obtain ⟨cu, g2⟩ := own_blk_ty hx hb
    rw [eg, hgk] at g2
    simp at g2
    exact he g2.2.symm
  have hup : ∀ v, UplOk w base v → UplOk w' base v := fun v hv => ⟨hrow hv.row (by decide), hv.len, hv.few, fun p hp => ⟨hrow (hv.prt p hp).row (by decide), (hv.prt p hp).byte, (hv.prt p hp).len, (hv.prt p hp).small⟩⟩
  refine ⟨?_, hrow h.orow (by decide), ?_, fun o ho => ⟨hrow (h.obj o ho).row (by decide), (h.obj o ho).byte, (h.obj o ho).len, (h.obj o ho).small⟩, fun v hv => ?_, h.of, by rw [hl]; exact h.uf⟩
  · rw [hl]
    refine (hoth S fun e => ?_).trans h.blk
    have h1 := h.blk
    rw [e, hgk] at h1
    simp at h1
  · rw [hl]
    have h1 := h.urow
    rw [hua] at h1 ⊢
    exact own_same (own_setCells (S := DUplS) h1 rfl hil u) (fun b _ => by rw [hw]; rfl)
  · rcases List.mem_or_eq_of_mem_set hv with g2 | g2
    · exact hup v (h.upl v g2)
    · rw [g2]; exact hup u hu
end Go.Proofs.YtjafagfhkpaciaaGreat
end PkSP2_6
section PkSP2_7
/- The document's complete, plainly. -/
namespace Go.Proofs.YtjafagfhkpaciaaGreat
open Go.RowKit
set_option linter.unusedVariables false

theorem PrtOk.bytes {w : World} {base : Nat} {p : DPrt} (h : PrtOk w base p) : BytesAt w p.da p.dn p.dc p.data := by
  obtain ⟨a, c, e, hb, _⟩ := BytesAt.ofOwn h.row h.byte (Nat.le_trans h.small (by decide))
  obtain ⟨e1, _, e2⟩ := Value.slice.inj e
  rw [e1, e2]; exact hb
theorem ObjOk.bytes {w : World} {base : Nat} {p : DObj} (h : ObjOk w base p) : BytesAt w p.da p.dn p.dc p.data := by
  obtain ⟨a, c, e, hb, _⟩ := BytesAt.ofOwn h.row h.byte (Nat.le_trans h.small (by decide))
  obtain ⟨e1, _, e2⟩ := Value.slice.inj e
  rw [e1, e2]; exact hb
/-- the bytes of the parts of a number; is there one -/
def matchD (l : List DPrt) (n : Int) : List Nat := l.flatMap fun p => if p.n = n then p.data else []
def hasP (l : List DPrt) (n : Int) : Bool := l.any fun p => decide (p.n = n)
def catD (l : List DPrt) : Nat → Option (List Nat)
  | 0 => some []
  | k + 1 => match catD l k with
    | none => none
    | some d => if hasP l ((k + 1 : Nat) : Int) = true then some (d ++ matchD l ((k + 1 : Nat) : Int)) else none
theorem matchD_succ {l : List DPrt} {n : Int} {j : Nat} {x : DPrt} (h : l[j]? = some x) : matchD (l.take (j + 1)) n = matchD (l.take j) n ++ (if x.n = n then x.data else []) := by
  unfold matchD
  rw [List.take_add_one, h, Option.toList_some, List.flatMap_append]
  simp
theorem hasP_succ {l : List DPrt} {n : Int} {j : Nat} {x : DPrt} (h : l[j]? = some x) : hasP (l.take (j + 1)) n = (hasP (l.take j) n || decide (x.n = n)) := by
  unfold hasP
  rw [List.take_add_one, h, Option.toList_some, List.any_append]
  simp
theorem catD_no {l : List DPrt} {k : Nat} (h : hasP l ((k + 1 : Nat) : Int) = false) : ∀ n, k < n → catD l n = none
  | 0, hn => by omega
  | n + 1, hn => by
    rw [catD]
    rcases Nat.lt_or_ge k n with g | g
    · rw [catD_no h n g]
    · obtain rfl : k = n := by omega
      rw [h]
      cases catD l k <;> rfl
theorem catD_yes {l : List DPrt} {k : Nat} {d : List Nat} (h : catD l k = some d) (hh : hasP l ((k + 1 : Nat) : Int) = true) : catD l (k + 1) = some (d ++ matchD l ((k + 1 : Nat) : Int)) := by
  rw [catD, h, hh]; rfl
def comDE (σ : DSto) (u : DUpl) (nn : Int) : Int :=
  if nn < 1 ∨ nn ≠ (u.parts.length : Int) then 4 else match catD u.parts nn.toNat with
    | none => 4
    | some d => if 262144 < d.length then 5 else if atK σ.objs u.key = -1 ∧ 512 ≤ σ.objs.length then 9 else 0
/-- what comes of a complete -/
def ComDP (w : World) (S base : Nat) (σ : DSto) (i : Nat) (u : DUpl) (nn : Int) (e : Ending) (w' : World) : Prop :=
  Frm (DF S σ) w w' ∧ (comDE σ u nn ≠ 0 → e = .returned (rep0 (comDE σ u nn)) ∧ DStAt w' S base σ) ∧
  (comDE σ u nn = 0 → ∃ d, catD u.parts nn.toNat = some d ∧ e = .returned (rep 0 (.slice none 0 0) (σ.ver + 1) σ.now 0 (.slice none 0 0) false) ∧ ∃ ua uc oa oc da dc, DStAt w' S base { σ with ua := ua, uc := uc, ups := outK σ.ups i, oa := oa, oc := oc, objs := putL σ.objs ⟨u.key, da, d.length, dc, d, σ.ver + 1, σ.now⟩, ver := σ.ver + 1 } ∧ (∀ b, blkOf da = some b → w.heap.size ≤ b))
theorem ComDP.no {w w' : World} {S base : Nat} {σ : DSto} {i : Nat} {u : DUpl} {nn : Int} {x : Int} (h : comDE σ u nn = x) (hx : x ≠ 0) (Z : DStAt w' S base σ ∧ Frm (DF S σ) w w') : ComDP w S base σ i u nn (.returned (rep0 x)) w' :=
  ⟨Z.2, fun _ => ⟨by rw [h], Z.1⟩, fun e => absurd (h.symm.trans e) hx⟩
theorem atK_neg {l : List DObj} {k : ByteArray} : (atK l k = -1 ∧ l.findIdx? (fun o => decide (o.key = k)) = none) ∨ ∃ j : Nat, atK l k = (j : Int) ∧ l.findIdx? (fun o => decide (o.key = k)) = some j := by
  unfold atK
  cases l.findIdx? (fun o => decide (o.key = k)) with
  | none => exact .inl ⟨rfl, rfl⟩
  | some j => exact .inr ⟨j, rfl, rfl⟩
end Go.Proofs.YtjafagfhkpaciaaGreat
end PkSP2_7
section PkSP2_8
/- The document's part, walked. Written by gensdprt.py. -/
namespace Go.Proofs.YtjafagfhkpaciaaGreat
open Go.RowKit
set_option linter.unusedVariables false

theorem PrtDP.no {w w' : World} {S base : Nat} {σ : DSto} {i : Nat} {u : DUpl} {nn : Int} {n : Nat} {xs : List Nat} {x : Int} (h : prtDE σ u nn n = x) (hx : x ≠ 0) (Z : DStAt w' S base σ ∧ Frm (DF S σ) w w') : PrtDP w S base σ i u nn n xs (.returned (rep0 x)) w' :=
  ⟨Z.2, fun _ => ⟨by rw [h], Z.1⟩, fun e => absurd (h.symm.trans e) hx⟩
theorem DStAt.tot {w : World} {S base : Nat} {σ : DSto} (h : DStAt w S base σ) : osum σ.objs + usum σ.ups ≤ 10000000000 := by
  have h1 := sum_bound (fun o : DObj => o.dn) (fun o ho => (h.obj o ho).small)
  have h2 : 262144 * σ.objs.length ≤ 262144 * 512 := Nat.mul_le_mul_left _ h.of
  have h3 := sum_bound (fun u : DUpl => psum u.parts) (B := 8388608) (l := σ.ups) (fun u hu => psum_le (h.upl u hu))
  have h4 : 8388608 * σ.ups.length ≤ 8388608 * 512 := Nat.mul_le_mul_left _ h.uf
  unfold osum usum
  omega
set_option maxRecDepth 100000 in
set_option maxHeartbeats 16000000 in
theorem dpart_any {w : World} {S base : Nat} {σ : DSto} (h : DStAt w S base σ) {i : Nat} {u : DUpl} (hu : σ.ups[i]? = some u) {ki vr at_ nn id : Int} {ky : ByteArray} {a : Option Addr} {n c : Nat} {xs : List Nat} (hx : BytesAt w a n c xs) (hbs : base ≤ w.heap.size) (hfew : 1 ≤ nn → nn ≤ 32 → (prtF u.parts nn).length < 32) :
    Calls Tryz.prog 33 #[.pointer (some ⟨S, 0, none⟩), .int .i64 (i : Int), .agg #[.int .i64 ki, .string ky, .slice a n c, .int .i64 vr, .int .i64 at_, .int .i64 nn, .int .i64 id]] w (PrtDP w S base σ i u nn n xs) := by
  have HE := Lib.hid (dent_mk h #[.int .i64 ki, .string ky, .slice a n c, .int .i64 vr, .int .i64 at_, .int .i64 nn, .int .i64 id])
  have HX := Lib.hid hx
  have hcap := hx.cap
  have hcm := hx.capm
  have HU := Lib.hid hu
  have HUP := Lib.hid (h.upl u (List.mem_of_getElem? hu))
  have HFEW := Lib.hid hfew
  have htot := h.tot
  have huf := h.uf
  have hSl : S < w.heap.size := (Array.getElem?_eq_some_iff.1 h.blk).1
  have hul : i < σ.ups.length := (List.getElem?_eq_some_iff.1 hu).1
  clear h hx hu hfew
  go_enter Tryz.func33, Tryz.ntmps33
  go_upto_region 1 with fail
  obtain ⟨W0, hW0⟩ : ∃ W0, W0 = (w.alloc (.cells #[.int .i64 ki, .string ky, .slice a n c, .int .i64 vr, .int .i64 at_, .int .i64 nn, .int .i64 id] 34)).alloc (.cells zrep 43) := ⟨_, rfl⟩
  rw [← hW0] at HE
  unfold zrep at hW0
  rw [← hW0]
  clear hW0
  have hz0 := HE.out.sz
  have hk0 : w.heap.size < W0.heap.size := by omega
  have hr0 : w.heap.size + 1 < W0.heap.size := by omega
  have hS0 : S < W0.heap.size := by omega
  have HZ0 := Lib.hid hz0
  clear hz0
  have HR0 := Lib.hid (Below.refl W0.heap.size W0)
  have k5 := cell_blkD HE.out.cb (i := 5) (u := .int .i64 nn) rfl
  have k2 := cell_blkD HE.out.cb (i := 2) (u := .slice a n c) rfl
  by_cases h1 : nn < 1
  case pos =>
    have HER := Lib.hid (show prtDE σ u nn n = 1 from by unfold prtDE; rw [if_pos (.inl h1)])
    go_wp2_with fail
    refine (dbad_any 1 W0).mono ?_
    rintro e wE ⟨rfl, hbE⟩
    unfold repA
    have hbe := HR0.out.trans (hbE.mono HR0.out.size)
    have hrb := (hbe.block (w.heap.size + 1) hr0).trans HE.out.rb
    obtain ⟨⟨q0, q1, q2, q3, q4, q5, q6⟩, r0, r1, r2, r3, r4, r5, r6⟩ := rb_cells hrb
    have HST := Lib.hid (HE.out.st.below hbe)
    have HFR := Lib.hid (show Frm (DF S σ) w wE from Frm.ofBelow (HE.out.bel.trans (hbe.mono HE.out.bel.size)))
    have HRB := Lib.hid hrb
    clear hbE hbe hrb
    go_wp2_with fail
    clear q0 q1 q2 q3 q4 q5 q6 r0 r1 r2 r3 r4 r5 r6
    obtain ⟨W5, hW5⟩ : ∃ W5, W5 = setR wE (w.heap.size + 1) (.int .i64 1) (.slice none 0 0) (.int .i64 0) (.int .i64 0) (.int .i64 0) (.slice none 0 0) (.bool false) := ⟨_, rfl⟩
    have hr5 := setR_at0 HRB.out (.int .i64 1) (.slice none 0 0) (.int .i64 0) (.int .i64 0) (.int .i64 0) (.slice none 0 0) (.bool false)
    have hF5 := (Frm.refl (fun b => b = w.heap.size + 1) wE).setR (R := w.heap.size + 1) (.inl rfl) (.int .i64 1) (.slice none 0 0) (.int .i64 0) (.int .i64 0) (.int .i64 0) (.slice none 0 0) (.bool false)
    rw [← hW5] at hr5 hF5
    unfold setR at hW5
    rw [← hW5]
    have hfin := put_done HST.out HRB.out (Nat.le_succ _) HFR.out hF5
    exact bodyPost_ret (ret_rep rfl _ _ (w.heap.size + 1) rfl hr5) rfl (PrtDP.no HER.out (by decide) hfin)
  have n1 : decide (nn < 1) = false := decide_eq_false h1
  by_cases h2 : 32 < nn
  case pos =>
    have HER := Lib.hid (show prtDE σ u nn n = 1 from by unfold prtDE; rw [if_pos (.inr h2)])
    go_wp2_with fail
    refine (dbad_any 1 W0).mono ?_
    rintro e wE ⟨rfl, hbE⟩
    unfold repA
    have hbe := HR0.out.trans (hbE.mono HR0.out.size)
    have hrb := (hbe.block (w.heap.size + 1) hr0).trans HE.out.rb
    obtain ⟨⟨q0, q1, q2, q3, q4, q5, q6⟩, r0, r1, r2, r3, r4, r5, r6⟩ := rb_cells hrb
    have HST := Lib.hid (HE.out.st.below hbe)
    have HFR := Lib.hid (show Frm (DF S σ) w wE from Frm.ofBelow (HE.out.bel.trans (hbe.mono HE.out.bel.size)))
    have HRB := Lib.hid hrb
    clear hbE hbe hrb
    go_wp2_with fail
    clear q0 q1 q2 q3 q4 q5 q6 r0 r1 r2 r3 r4 r5 r6
    obtain ⟨W5, hW5⟩ : ∃ W5, W5 = setR wE (w.heap.size + 1) (.int .i64 1) (.slice none 0 0) (.int .i64 0) (.int .i64 0) (.int .i64 0) (.slice none 0 0) (.bool false) := ⟨_, rfl⟩
    have hr5 := setR_at0 HRB.out (.int .i64 1) (.slice none 0 0) (.int .i64 0) (.int .i64 0) (.int .i64 0) (.slice none 0 0) (.bool false)
    have hF5 := (Frm.refl (fun b => b = w.heap.size + 1) wE).setR (R := w.heap.size + 1) (.inl rfl) (.int .i64 1) (.slice none 0 0) (.int .i64 0) (.int .i64 0) (.int .i64 0) (.slice none 0 0) (.bool false)
    rw [← hW5] at hr5 hF5
    unfold setR at hW5
    rw [← hW5]
    have hfin := put_done HST.out HRB.out (Nat.le_succ _) HFR.out hF5
    exact bodyPost_ret (ret_rep rfl _ _ (w.heap.size + 1) rfl hr5) rfl (PrtDP.no HER.out (by decide) hfin)
  have n2 : decide (32 < nn) = false := decide_eq_false h2
  have hnn : 1 ≤ nn ∧ nn ≤ 32 := by omega
  have HNN := Lib.hid (show ¬ (nn < 1 ∨ 32 < nn) from by omega)
  by_cases h3 : 262144 < n
  case pos =>
    have h3' : (262144 : Int) < (n : Int) := by omega
    have HER := Lib.hid (show prtDE σ u nn n = 5 from by unfold prtDE; rw [if_neg HNN.out, if_pos h3])
    go_wp2_with fail
    refine (dbad_any 5 W0).mono ?_
    rintro e wE ⟨rfl, hbE⟩
    unfold repA
    have hbe := HR0.out.trans (hbE.mono HR0.out.size)
    have hrb := (hbe.block (w.heap.size + 1) hr0).trans HE.out.rb
    obtain ⟨⟨q0, q1, q2, q3, q4, q5, q6⟩, r0, r1, r2, r3, r4, r5, r6⟩ := rb_cells hrb
    have HST := Lib.hid (HE.out.st.below hbe)
    have HFR := Lib.hid (show Frm (DF S σ) w wE from Frm.ofBelow (HE.out.bel.trans (hbe.mono HE.out.bel.size)))
    have HRB := Lib.hid hrb
    clear hbE hbe hrb
    go_wp2_with fail
    clear q0 q1 q2 q3 q4 q5 q6 r0 r1 r2 r3 r4 r5 r6
    obtain ⟨W5, hW5⟩ : ∃ W5, W5 = setR wE (w.heap.size + 1) (.int .i64 5) (.slice none 0 0) (.int .i64 0) (.int .i64 0) (.int .i64 0) (.slice none 0 0) (.bool false) := ⟨_, rfl⟩
    have hr5 := setR_at0 HRB.out (.int .i64 5) (.slice none 0 0) (.int .i64 0) (.int .i64 0) (.int .i64 0) (.slice none 0 0) (.bool false)
    have hF5 := (Frm.refl (fun b => b = w.heap.size + 1) wE).setR (R := w.heap.size + 1) (.inl rfl) (.int .i64 5) (.slice none 0 0) (.int .i64 0) (.int .i64 0) (.int .i64 0) (.slice none 0 0) (.bool false)
    rw [← hW5] at hr5 hF5
    unfold setR at hW5
    rw [← hW5]
    have hfin := put_done HST.out HRB.out (Nat.le_succ _) HFR.out hF5
    exact bodyPost_ret (ret_rep rfl _ _ (w.heap.size + 1) rfl hr5) rfl (PrtDP.no HER.out (by decide) hfin)
  have h3' : ¬ (262144 : Int) < (n : Int) := by omega
  have hfw := HFEW.out hnn.1 hnn.2
  have hn63 : n ≤ 262144 := by omega
  have HV0 := Lib.hid HE.out.st.ups
  obtain ⟨gb, off, hga, hgl, _, hgc⟩ := HV0.out.get hul
  have hgd : σ.ups.getD i DUplS.z = u := by rw [List.getD_eq_getElem?_getD, HU.out]; rfl
  rw [hgd] at hgc
  obtain ⟨uid, ub, uk, pa, pn, pc, parts⟩ := u
  have v0 : W0.cell? ⟨gb, off + i * 4, none⟩ = some (.int .i64 uid) := hgc 0 _ rfl
  have v1 : W0.cell? ⟨gb, off + i * 4 + 1, none⟩ = some (.int .i64 ub) := hgc 1 _ rfl
  have v2 : W0.cell? ⟨gb, off + i * 4 + 2, none⟩ = some (.string uk) := hgc 2 _ rfl
  have v3 : W0.cell? ⟨gb, off + i * 4 + 3, none⟩ = some (.slice pa pn pc) := hgc 3 _ rfl
  have c1 := cell_blkD HE.out.st.blk (i := 1) (u := .slice σ.ua σ.ups.length σ.uc) rfl
  rw [hga] at c1
  obtain ⟨m9, hm9⟩ : ∃ m9, m9 = σ.ups.length := ⟨_, rfl⟩
  obtain ⟨uc9, huc9⟩ : ∃ uc9, uc9 = σ.uc := ⟨_, rfl⟩
  rw [← hm9, ← huc9] at c1
  rw [← hm9] at hul huf
  have HM9 := Lib.hid (And.intro hm9 huc9)
  have zi : (i : Int) < (m9 : Int) := by omega
  have zi0 : (0 : Int) ≤ (i : Int) := by omega
  have hpn := HUP.out.few
  have hpl := HUP.out.len
  have HV := Lib.hid (show VecAt DPrtS W0 pa pn pc parts from (VecAt.ofOwn HUP.out.row hpl (fun _ _ => trivial)).kept HE.out.bel)
  have hpc := HV.out.cap
  have hpcm := HV.out.capm
  obtain ⟨b7, hb7⟩ : ∃ b7, b7 = W0.heap.size := ⟨_, rfl⟩
  obtain ⟨W7, hW7⟩ : ∃ W7, W7 = W0.alloc (.cells #[.int .i64 uid, .int .i64 ub, .string uk, .slice pa pn pc] 65) := ⟨_, rfl⟩
  have hB7 : Below W0.heap.size W0 W7 := by rw [hW7]; exact (Below.refl _ _).alloc (Nat.le_refl _) _
  have hK7 : W7.heap[b7]? = some (.cells #[.int .i64 uid, .int .i64 ub, .string uk, .slice pa pn pc] 65 (0, 0)) := by rw [hW7, hb7]; exact heap_alloc_newD W0 _
  have hz7 : W7.heap.size = W0.heap.size + 1 := by rw [hW7]; simp
  have HB7 := Lib.hid hB7
  have HK7 := Lib.hid hK7
  have HW7 := Lib.hid hW7
  have HBE7 := Lib.hid hb7
  have hbl7 : b7 < W7.heap.size := by omega
  have HZ7 := Lib.hid hz7
  clear hz7
  clear hm9 huc9 hgc hgd hga hgl hpl hW7 hB7 hK7 n1 n2
  go_upto_region 6 with fail
  rw [← HW7.out, ← HBE7.out]
  clear v0 v1 v2 v3 c1 k5 k2
  obtain ⟨b8, hb8⟩ : ∃ b8, b8 = W7.heap.size := ⟨_, rfl⟩
  obtain ⟨W8, hW8⟩ : ∃ W8, W8 = W7.alloc (.cells #[] 98) := ⟨_, rfl⟩
  have HB8 := Lib.hid (show Below W7.heap.size W7 W8 from by rw [hW8]; exact (Below.refl _ _).alloc (Nat.le_refl _) _)
  have HO8 := Lib.hid (show W8.ownsRow W7.heap.size 98 2 (.slice (some ⟨b8, 0, none⟩) 0 0) 0 (DPrtS.flat []) from by rw [hW8, hb8]; exact World.ownsRow_lit (base := W7.heap.size) (e := 98) (size := 2) W7 #[] 0 (Nat.le_refl _) (by unfold maxLen; omega) rfl)
  have d3 := cell_blkD (cells_of_below HB8.out HK7.out) (i := 3) (u := .slice pa pn pc) rfl
  have HW8 := Lib.hid hW8
  have HBE8 := Lib.hid hb8
  clear hW8 hb8 hb7
  go_upto_region 7 with fail
  rw [← HW8.out, ← HBE8.out]
  go_wp2_with fail
  clear d3
  go_loopw [8, 9, 37] (fun s8 s9 s37 wr => ∃ (j m had c8 : Nat) (a8 : Option Addr), j ≤ pn ∧ m ≤ j ∧ had ≤ 262144 ∧ s8 = .slice a8 m c8 ∧ s9 = .int .i64 (had : Int) ∧ s37 = .int .i64 (j : Int) ∧ Hid (m = (prtF (parts.take j) nn).length) ∧ Hid (had = hadP (parts.take j) nn) ∧ Hid (wr.ownsRow W7.heap.size 98 2 (.slice a8 m c8) m (DPrtS.flat (prtF (parts.take j) nn))) ∧ Hid (Below W7.heap.size W7 wr)) (fun _ _ s37 _ => pn - (intOf s37).toNat)
  case atStart => exact ⟨0, 0, 0, 0, _, by omega, by omega, by omega, rfl, rfl, rfl, Lib.hid rfl, Lib.hid rfl, HO8, HB8⟩
  case round =>
    clear HO8 HB8
    obtain ⟨j, m, had, c8, a8, hj, hmj, hhad, rfl, rfl, rfl, HM, HH, HO, HB⟩ := hrel
    rename World => wr
    by_cases hin : j < pn
    · obtain ⟨b, off2, rfl, _, _, hc⟩ := (HV.out.kept (HB7.out.trans (HB.out.mono HB7.out.size))).get hin
      have hgl := getD_some (d := DPrtS.z) (show j < parts.length by rw [HV.out.len]; exact hin)
      obtain ⟨x, hxx⟩ : ∃ x, x = parts.getD j DPrtS.z := ⟨_, rfl⟩
      rw [← hxx] at hc hgl
      have hsm := (HUP.out.prt x (List.mem_of_getElem? hgl)).small
      have HFS := Lib.hid (prtF_succ (nn := nn) hgl)
      have HHS := Lib.hid (hadP_succ (nn := nn) hgl)
      obtain ⟨xn, xa, xd, xc, xxs⟩ := x
      have k0 : wr.cell? ⟨b, off2 + j * 2, none⟩ = some (.int .i64 xn) := hc 0 _ rfl
      have k1 : wr.cell? ⟨b, off2 + j * 2 + 1, none⟩ = some (.slice xa xd xc) := hc 1 _ rfl
      have hxd : xd ≤ 262144 := hsm
      obtain ⟨bx, hbx⟩ : ∃ bx, bx = wr.heap.size := ⟨_, rfl⟩
      obtain ⟨W3, hW3⟩ : ∃ W3, W3 = wr.alloc (.cells #[.int .i64 xn, .slice xa xd xc] 98) := ⟨_, rfl⟩
      have hb3 : Below wr.heap.size wr W3 := by rw [hW3]; exact (Below.refl _ _).alloc (Nat.le_refl _) _
      have hk3 : W3.heap[bx]? = some (.cells #[.int .i64 xn, .slice xa xd xc] 98 (0, 0)) := by rw [hW3, hbx]; exact heap_alloc_newD wr _
      have d0 := cell_blkD hk3 (i := 0) (u := .int .i64 xn) rfl
      have d1 := cell_blkD hk3 (i := 1) (u := .slice xa xd xc) rfl
      have hb37 := HB.out.trans (hb3.mono HB.out.size)
      have k5 := cell_blkD (cells_of_below (HB7.out.trans (hb37.mono HB7.out.size)) HE.out.cb) (i := 5) (u := .int .i64 nn) rfl
      have HB3 := Lib.hid hb37
      have HO3 := Lib.hid (own_below HO.out hb3)
      have HW3 := Lib.hid hW3
      have HBX := Lib.hid hbx
      have zj : (j : Int) < (pn : Int) := by omega
      have zj0 : (0 : Int) ≤ (j : Int) := by omega
      have wj : IntKind.i64.wrap ((j : Int) + 1) = (j : Int) + 1 := IntWalk.i64_in _ (by omega)
      clear hc hxx hgl hsm hbx hW3 hb3 hk3 HB hb37 HO
      go_upto_region 11 with fail
      rw [← HW3.out, ← HBX.out]
      clear k0 k1
      by_cases e : xn = nn
      · have e' : nn = xn := e.symm
        have HF2 := Lib.hid (show prtF (parts.take (j + 1)) nn = prtF (parts.take j) nn from by rw [HFS.out, if_pos e])
        have HH2 := Lib.hid (show xd = hadP (parts.take (j + 1)) nn from by rw [HHS.out, if_pos e])
        clear HFS HHS
        subst e'
        go_wp2_with fail
        go_roundw
        case rel => exact ⟨j + 1, m, xd, c8, a8, by omega, by omega, by omega, rfl, rfl, by push_cast; rfl, Lib.hid (by rw [HF2.out]; exact HM.out), HH2, Lib.hid (by rw [HF2.out]; exact HO3.out), HB3⟩
        case measure => simp only [intOf]; omega
      · have e2 : (xn == nn) = false := by simpa using e
        have HF2 := Lib.hid (show prtF (parts.take (j + 1)) nn = prtF (parts.take j) nn ++ [⟨xn, xa, xd, xc, xxs⟩] from by rw [HFS.out, if_neg e])
        have HH2 := Lib.hid (show had = hadP (parts.take (j + 1)) nn from by rw [HHS.out, if_neg e]; exact HH.out)
        have hb4 : Below W3.heap.size W3 (W3.alloc (.cells #[.int .i64 xn, .slice xa xd xc] 98)) := (Below.refl _ _).alloc (Nat.le_refl _) _
        have HO4 := Lib.hid (own_below HO3.out hb4)
        have HB4 := Lib.hid (HB3.out.trans (hb4.mono HB3.out.size))
        have HV4 := Lib.hid (vec_oneS DPrtS W3 (⟨xn, xa, xd, xc, xxs⟩ : DPrt) (fun _ => trivial) 98 (cs := #[.int .i64 xn, .slice xa xd xc]) rfl)
        clear hb4
        go_wp2_with (at_builtin; refine wpList_append_dpr rfl (.tmp 49) (.tmp 51) rfl W7.heap.size _ _ (prtF (parts.take j) nn) rfl HO4.out _ _ _ [(⟨xn, xa, xd, xc, xxs⟩ : DPrt)] rfl HV4.out (by omega) HB4.out.size ?_)
        intro v5 w5 ho5 hg5
        have HB5 := Lib.hid (HB4.out.grown hg5 HB4.out.size (fun k hk => (HO4.out.lt k hk).1))
        obtain ⟨a5, c5, rfl⟩ := own_sliceD ho5
        have HO5 := Lib.hid ho5
        clear ho5 hg5 HO4 HB4 HV4 d0 d1 k5
        go_wp2_with fail
        go_roundw
        case rel => exact ⟨j + 1, m + 1, had, c5, a5, by omega, by omega, by omega, rfl, rfl, by push_cast; rfl, Lib.hid (by rw [HF2.out, List.length_append, ← HM.out]; rfl), HH2, Lib.hid (by rw [HF2.out]; exact HO5.out), HB5⟩
        case measure => simp only [intOf]; omega
    · have hjn : j = pn := by omega
      have htk : parts.take j = parts := by rw [hjn]; exact List.take_of_length_le (by rw [HV.out.len]; exact Nat.le_refl _)
      rw [htk] at HM HH HO
      have hm32 : m < 32 := by rw [HM.out]; exact hfw
      have hB0 := HB7.out.trans (HB.out.mono HB7.out.size)
      obtain ⟨T, hT⟩ : ∃ T, T = osum σ.objs + usum σ.ups := ⟨_, rfl⟩
      have HSZ := Lib.hid (dsize_any ((HE.out.st.below hB0).same (w' := wr.drew) (fun _ _ => rfl)))
      rw [← hT] at HSZ htot
      have HTT := Lib.hid hT
      have k2 := cell_blkD (cells_of_below hB0 HE.out.cb) (i := 2) (u := .slice a n c) rfl
      have wt1 : IntKind.i64.wrap ((T : Int) - (had : Int)) = (T : Int) - (had : Int) := IntWalk.i64_in _ (by omega)
      have wt2 : IntKind.i64.wrap ((T : Int) - (had : Int) + (n : Int)) = (T : Int) - (had : Int) + (n : Int) := IntWalk.i64_in _ (by omega)
      have HBZ := Lib.hid hB0
      have zjn : ¬ (j : Int) < (pn : Int) := by omega
      clear hT hB0 htk
      go_upto_region 15 with fail
      go_region_law (go_simp; go_at_call 30; refine HSZ.out.mono ?_; rintro e wA ⟨rfl, hbA⟩; have HBA := Lib.hid (show Below wr.heap.size wr wA from ((Below.refl wr.heap.size wr).drew).trans hbA); have k2A := cell_blkD (cells_of_below HBA.out (cells_of_below HBZ.out HE.out.cb)) (i := 2) (u := .slice a n c) rfl; clear hbA)
      all_goals
        clear k2
        have HBA0 := Lib.hid (HBZ.out.trans (HBA.out.mono HBZ.out.size))
        have HBA7 := Lib.hid (HB.out.trans (HBA.out.mono HB.out.size))
        have HOA := Lib.hid (own_below HO.out HBA.out)
        by_cases hful : (4194304 : Int) < (T : Int) - (had : Int) + (n : Int)
        case pos =>
          have HER := Lib.hid (show prtDE σ ⟨uid, ub, uk, pa, pn, pc, parts⟩ nn n = 9 from by unfold prtDE; rw [if_neg HNN.out, if_neg h3, ← HTT.out, ← HH.out, if_pos hful])
          go_wp2_with fail
          refine (dbad_any 9 wA).mono ?_
          rintro e wE ⟨rfl, hbE⟩
          unfold repA
          have hbe := HBA0.out.trans (hbE.mono HBA0.out.size)
          have hrb := (hbe.block (w.heap.size + 1) hr0).trans HE.out.rb
          obtain ⟨⟨q0, q1, q2, q3, q4, q5, q6⟩, r0, r1, r2, r3, r4, r5, r6⟩ := rb_cells hrb
          have HST := Lib.hid (HE.out.st.below hbe)
          have HFR := Lib.hid (show Frm (DF S σ) w wE from Frm.ofBelow (HE.out.bel.trans (hbe.mono HE.out.bel.size)))
          have HRB := Lib.hid hrb
          clear hbE hbe hrb
          go_wp2_with fail
          clear q0 q1 q2 q3 q4 q5 q6 r0 r1 r2 r3 r4 r5 r6
          obtain ⟨W5, hW5⟩ : ∃ W5, W5 = setR wE (w.heap.size + 1) (.int .i64 9) (.slice none 0 0) (.int .i64 0) (.int .i64 0) (.int .i64 0) (.slice none 0 0) (.bool false) := ⟨_, rfl⟩
          have hr5 := setR_at0 HRB.out (.int .i64 9) (.slice none 0 0) (.int .i64 0) (.int .i64 0) (.int .i64 0) (.slice none 0 0) (.bool false)
          have hF5 := (Frm.refl (fun b => b = w.heap.size + 1) wE).setR (R := w.heap.size + 1) (.inl rfl) (.int .i64 9) (.slice none 0 0) (.int .i64 0) (.int .i64 0) (.int .i64 0) (.slice none 0 0) (.bool false)
          rw [← hW5] at hr5 hF5
          unfold setR at hW5
          rw [← hW5]
          have hfin := put_done HST.out HRB.out (Nat.le_succ _) HFR.out hF5
          exact bodyPost_ret (ret_rep rfl _ _ (w.heap.size + 1) rfl hr5) rfl (PrtDP.no HER.out (by decide) hfin)
        case neg =>
          have HER := Lib.hid (show prtDE σ ⟨uid, ub, uk, pa, pn, pc, parts⟩ nn n = 0 from by unfold prtDE; rw [if_neg HNN.out, if_neg h3, ← HTT.out, ← HH.out, if_neg hful])
          go_upto_region 17 with fail
          clear k2A wt1 wt2
          have HTW := Lib.hid (twin_any ((HX.out.kept (HE.out.bel.trans (HBA0.out.mono HE.out.bel.size))).kept ((Below.refl wA.heap.size wA).drew)))
          have k5A := cell_blkD (cells_of_below HBA0.out HE.out.cb) (i := 5) (u := .int .i64 nn) rfl
          have k2A := cell_blkD (cells_of_below HBA0.out HE.out.cb) (i := 2) (u := .slice a n c) rfl
          go_region_law (first
            | (go_simp; go_at_call 10; refine HTW.out.mono ?_; rintro e wB ⟨vB, rfl, hoB, _, hbB⟩; obtain ⟨ta, tc, rfl⟩ := own_sliceD hoB; have HBB := Lib.hid (show Below wA.heap.size wA wB from ((Below.refl wA.heap.size wA).drew).trans hbB); have HOB := Lib.hid (show wB.ownsRow wA.heap.size 5 1 (.slice ta n tc) n (bv xs) from hoB); have hbC : Below wB.heap.size wB (wB.alloc (.cells #[.int .i64 nn, .slice ta n tc] 98)) := (Below.refl _ _).alloc (Nat.le_refl _) _; have HOB2 := Lib.hid (own_below HOB.out hbC); have HPC := Lib.hid (own_below (own_below HOA.out HBB.out) hbC); have HB7B := Lib.hid (HBA7.out.trans (HBB.out.mono HBA7.out.size)); have HBC := Lib.hid (HB7B.out.trans (hbC.mono HB7B.out.size)); have HVC := Lib.hid (vec_oneS DPrtS wB (⟨nn, ta, n, tc, xs⟩ : DPrt) (fun _ => trivial) 98 (cs := #[.int .i64 nn, .slice ta n tc]) rfl); have k5B := cell_blkD (cells_of_below HBB.out (cells_of_below HBA0.out HE.out.cb)) (i := 5) (u := .int .i64 nn) rfl; clear hoB hbB hbC)
            | (refine step_append_dpr (by simp [Region.wanted]) (.tmp 64) (.tmp 71) rfl W7.heap.size (.slice a8 m c8) m (prtF parts nn) (by rfl) HPC.out _ 1 1 [(⟨nn, ta, n, tc, xs⟩ : DPrt)] (by rfl) HVC.out (by omega) HBC.out.size ?_; intro vD wD hoD hgD; obtain ⟨aD, cD, rfl⟩ := own_sliceD hoD; have HBD := Lib.hid (HBC.out.grown hgD HBC.out.size (fun k hk => (HPC.out.lt k hk).1)); have HOD := Lib.hid hoD; have HTD := Lib.hid (HOB2.out.kept hgD (own_ne2 HOB2.out HPC.out (by decide))); have hk9 := cells_of_below HBD.out HK7.out; have y3 := cell_blkD hk9 (i := 3) (u := .slice pa pn pc) rfl; have fy3 := frz_blkD hk9 3; have HKD := Lib.hid hk9; clear hoD hgD hk9))
          all_goals
            clear y3 fy3 k2A k5A k5B
            obtain ⟨wE, hWE⟩ : ∃ wE, wE = wD.setCell ⟨b7, 3, none⟩ (.slice aD (m + 1) cD) := ⟨_, rfl⟩
            have HBD0 := Lib.hid (HB7.out.trans (HBD.out.mono HB7.out.size))
            have HBE := Lib.hid (show Below W0.heap.size W0 wE from by rw [hWE]; exact HBD0.out.setCell (p := ⟨b7, 3, none⟩) (Nat.le_of_eq HBE7.out.symm) _)
            have hkE : wE.heap[b7]? = some (.cells #[.int .i64 uid, .int .i64 ub, .string uk, .slice aD (m + 1) cD] 65 (0, 0)) := by
              rw [hWE, heap_setCell_same wD b7 3 _ _ _ HKD.out]; rfl
            have HKE := Lib.hid hkE
            have HFE := Lib.hid (show Frm (fun b => b = b7 ∨ b = S) wD wE from by rw [hWE]; exact (Frm.refl (fun b => b = b7 ∨ b = S) wD).set (.inl (.inl rfl)) _ _)
            have HWE := Lib.hid hWE
            have HSE := Lib.hid (HE.out.st.below HBE.out)
            have HB5 := Lib.hid (show Below wE.heap.size wE (wE.alloc (.cells #[] 65)) from (Below.refl _ _).alloc (Nat.le_refl _) _)
            have HO5 := Lib.hid (show (wE.alloc (.cells #[] 65)).ownsRow wE.heap.size 65 4 (.slice (some ⟨wE.heap.size, 0, none⟩) 0 0) 0 (DUplS.flat []) from World.ownsRow_lit (base := wE.heap.size) (e := 65) (size := 4) wE #[] 0 (Nat.le_refl _) (by unfold maxLen; omega) rfl)
            have HV5 := Lib.hid (HSE.out.below HB5.out).ups
            have e1 := cell_blkD (HSE.out.below HB5.out).blk (i := 1) (u := .slice σ.ua σ.ups.length σ.uc) rfl
            have huf9 : σ.ups.length ≤ 512 := by have := HM9.out.1; omega
            have hul9 : i < σ.ups.length := by have := HM9.out.1; omega
            clear hWE hkE
            go_upto_region 18 with fail
            rw [← HWE.out]
            go_wp2_with (at_builtin; refine wpList_append_dup rfl (.tmp 75) (.tmp 79) rfl wE.heap.size _ _ [] rfl HO5.out _ _ _ σ.ups rfl HV5.out (by omega) HB5.out.size ?_)
            intro v9 w9 ho9 hg9
            have HB9 := Lib.hid (HB5.out.grown hg9 HB5.out.size (fun k hk => (HO5.out.lt k hk).1))
            obtain ⟨a9, c9, rfl⟩ := own_sliceD ho9
            try rw [Nat.zero_add] at ho9
            try rw [Nat.zero_add]
            try rw [List.nil_append] at ho9
            have HS9 := Lib.hid (HSE.out.below HB9.out)
            have e2 := cell_blkD HS9.out.blk (i := 1) (u := .slice σ.ua σ.ups.length σ.uc) rfl
            have f2 := frz_blkD HS9.out.blk 1
            have hbE : base ≤ wE.heap.size := Nat.le_trans hbs (Nat.le_trans HE.out.bel.size HBE.out.size)
            have hDST := HS9.out.upsLaid (a := a9) (c := c9) (N := σ.ups.length) (us := σ.ups) (own_baseD ho9 hbE) rfl (fun u hu => HS9.out.upl u hu) HS9.out.uf
            obtain ⟨w18, hW18⟩ : ∃ w18, w18 = w9.setCell ⟨S, 1, none⟩ (.slice a9 σ.ups.length c9) := ⟨_, rfl⟩
            rw [← hW18] at hDST
            obtain ⟨g, cur, hga, hgb, hgk, hcs⟩ := hDST.urow_parts (Nat.lt_of_le_of_lt (Nat.zero_le _) hul9)
            have hga' : a9 = some ⟨g, 0, none⟩ := hga
            subst hga'
            have hgE := (own_blk_lt ho9 (b := g) rfl).1
            have HF18 := Lib.hid (show Frm (fun b => b = b7 ∨ b = S) wD w18 from by rw [hW18]; exact (HFE.out.below HB9.out).set (.inl (.inr rfl)) _ _)
            have HFW := Lib.hid (show Frm (DF S σ) w w18 from by rw [hW18]; exact ((Frm.ofBelow (HE.out.bel.trans (HBE.out.mono HE.out.bel.size))).below HB9.out).set (.inl (.inl rfl)) _ _)
            have HS18 := Lib.hid (show Frm (fun b => b = S) w9 w18 from by rw [hW18]; exact (Frm.refl (fun b => b = S) w9).set (.inl rfl) _ _)
            have HK18 := Lib.hid (HS18.out.at (cells_of_below HB9.out HKE.out) (fun e => by have h1 := HKE.out; rw [e, HSE.out.blk] at h1; simp at h1))
            have HR18 := Lib.hid (HS18.out.at (cells_of_below HB9.out (cells_of_below HBE.out HE.out.rb)) (fun e => by have h1 := HE.out.rb; rw [e, HE.out.st.blk] at h1; simp at h1))
            have HDST := Lib.hid hDST
            have HGK := Lib.hid hgk
            have HW18 := Lib.hid hW18
            clear ho9 hg9 HO5 HB5 HV5 e1 hW18 hga hcs
            go_upto_region 19 with fail
            rw [← HW18.out]
            clear e2 f2
            have c1 := cell_blkD HDST.out.blk (i := 1) (u := .slice (some ⟨g, 0, none⟩) σ.ups.length c9) rfl
            have x0 := cell_blkD HK18.out (i := 0) (u := .int .i64 uid) rfl
            have x1 := cell_blkD HK18.out (i := 1) (u := .int .i64 ub) rfl
            have x2 := cell_blkD HK18.out (i := 2) (u := .string uk) rfl
            have x3 := cell_blkD HK18.out (i := 3) (u := .slice aD (m + 1) cD) rfl
            have y0 := frz_blkD hgk (i * 4)
            have y1 := frz_blkD hgk (i * 4 + 1)
            have y2 := frz_blkD hgk (i * 4 + 2)
            have y3 := frz_blkD hgk (i * 4 + 3)
            obtain ⟨⟨q0, z0⟩, ⟨q1, z1⟩, ⟨q2, z2⟩, ⟨qa, qd, qc, z3⟩⟩ := HDST.out.upl_cells (g := g) rfl hul9
            have zi9 : (i : Int) < (σ.ups.length : Int) := by omega
            clear hDST hgk
            go_region
            obtain ⟨WN, hWN⟩ : ∃ WN, WN = ((((w18.setCell ⟨g, i * 4, none⟩ (.int .i64 uid)).setCell ⟨g, i * 4 + 1, none⟩ (.int .i64 ub)).setCell ⟨g, i * 4 + 2, none⟩ (.string uk)).setCell ⟨g, i * 4 + 3, none⟩ (.slice aD (m + 1) cD)).drew := ⟨_, rfl⟩
            rw [← hWN]
            have hnot : ∀ {b : Nat} {cs : Array Value} {t : TypeId}, wD.heap[b]? = some (.cells cs t (0, 0)) → t ≠ 65 → t ≠ 29 → ¬ (b = b7 ∨ b = S) := fun {b cs t} hb h1 h2 e => by
              rcases e with rfl | rfl
              · rw [HKD.out] at hb; simp at hb; exact h1 hb.2.symm
              · rw [(HE.out.st.below HBD0.out).blk] at hb; simp at hb; exact h2 hb.2.symm
            have hkeep : ∀ {n c N k base' : Nat} {e : TypeId} {a : Option Addr} {xs : List Value}, wD.ownsRow base' e k (.slice a n c) N xs → e ≠ 65 → e ≠ 29 → w18.ownsRow base' e k (.slice a n c) N xs := fun {n c N k base' e a xs} hx h1 h2 => own_same hx fun b hb => by
              obtain ⟨cu, g2⟩ := own_blk_ty hx hb
              exact HF18.out.block b (own_blk_lt hx hb).2 (hnot g2 h1 h2)
            have hUok : UplOk w18 base ⟨uid, ub, uk, aD, m + 1, cD, prtF parts nn ++ [⟨nn, ta, n, tc, xs⟩]⟩ := by
              refine ⟨own_baseD (hkeep HOD.out (by decide) (by decide)) (Nat.le_trans hbs (Nat.le_trans HE.out.bel.size HB7.out.size)), ?_, hm32, fun p hp => ?_⟩
              · show (prtF parts nn ++ [_]).length = m + 1
                rw [List.length_append, ← HM.out]; rfl
              · rcases List.mem_append.1 hp with g3 | g3
                · exact (HDST.out.upl _ (List.mem_of_getElem? HU.out)).prt p (List.mem_filter.1 g3).1
                · rw [List.mem_singleton.1 g3]
                  exact ⟨own_baseD (hkeep HTD.out (by decide) (by decide)) (Nat.le_trans hbs (Nat.le_trans HE.out.bel.size HBA0.out.size)), HX.out.byte, HX.out.len, hn63⟩
            have HSTN := Lib.hid (HDST.out.uplInPlace (w' := WN) (g := g) rfl HGK.out hul9 hUok (by rw [hWN]; rfl))
            have hFg : ∀ {F : Nat → Prop} {a : World}, Frm F a w18 → (F g ∨ a.heap.size ≤ g) → Frm F a WN := fun {F a} h0 hp => by rw [hWN]; exact ((((h0.set hp _ _).set hp _ _).set hp _ _).set hp _ _).drew
            have HFN := Lib.hid (hFg HFW.out (.inr (Nat.le_trans HE.out.bel.size (Nat.le_trans HBE.out.size hgE))))
            have HSN := Lib.hid (hFg (Frm.refl (fun b => b = g) w18) (.inl rfl))
            have HRBN := Lib.hid (HSN.out.at HR18.out (fun e => by have := HBE.out.size; omega))
            clear hnot hkeep hUok hFg hWN c1 x0 x1 x2 x3 y0 y1 y2 y3 z0 z1 z2 z3
            obtain ⟨⟨q0', q1', q2', q3', q4', q5', q6'⟩, r0, r1, r2, r3, r4, r5, r6⟩ := rb_cells HRBN.out
            go_wp2_with fail
            clear q0' q1' q2' q3' q4' q5' q6' r0 r1 r2 r3 r4 r5 r6
            obtain ⟨W5, hW5⟩ : ∃ W5, W5 = setR WN (w.heap.size + 1) (.int .i64 0) (.slice none 0 0) (.int .i64 0) (.int .i64 0) (.int .i64 0) (.slice none 0 0) (.bool false) := ⟨_, rfl⟩
            have hr5 := setR_at0 HRBN.out (.int .i64 0) (.slice none 0 0) (.int .i64 0) (.int .i64 0) (.int .i64 0) (.slice none 0 0) (.bool false)
            have hF5 := (Frm.refl (fun b => b = w.heap.size + 1) WN).setR (R := w.heap.size + 1) (.inl rfl) (.int .i64 0) (.slice none 0 0) (.int .i64 0) (.int .i64 0) (.int .i64 0) (.slice none 0 0) (.bool false)
            rw [← hW5] at hr5 hF5
            unfold setR at hW5
            rw [← hW5]
            have hfin := put_done HSTN.out HRBN.out (Nat.le_succ _) HFN.out hF5
            exact bodyPost_ret (ret_rep rfl _ _ (w.heap.size + 1) rfl hr5) rfl ⟨hfin.2, fun e => absurd HER.out e, fun _ => ⟨rfl, _, _, _, _, _, _, _, hfin.1, fun b hb => Nat.le_trans (Nat.le_trans HE.out.bel.size HBA0.out.size) (own_blk_lt HTD.out hb).1⟩⟩
end Go.Proofs.YtjafagfhkpaciaaGreat
end PkSP2_8
section PkSP2_9
/- The document's complete, walked. Written by gensdcom.py. -/
namespace Go.Proofs.YtjafagfhkpaciaaGreat
open Go.RowKit
set_option linter.unusedVariables false

set_option maxRecDepth 100000 in
set_option maxHeartbeats 16000000 in
theorem dcom_any {w : World} {S base : Nat} {σ : DSto} (h : DStAt w S base σ) {i : Nat} {u : DUpl} (hu : σ.ups[i]? = some u) {ki vr at_ nn id : Int} {ky : ByteArray} {a : Option Addr} {n c : Nat} (hbs : base ≤ w.heap.size) (hver : 0 ≤ σ.ver ∧ σ.ver ≤ 1000000000) :
    Calls Tryz.prog 34 #[.pointer (some ⟨S, 0, none⟩), .int .i64 (i : Int), .agg #[.int .i64 ki, .string ky, .slice a n c, .int .i64 vr, .int .i64 at_, .int .i64 nn, .int .i64 id]] w (ComDP w S base σ i u nn) := by
  have HE := Lib.hid (dent_mk h #[.int .i64 ki, .string ky, .slice a n c, .int .i64 vr, .int .i64 at_, .int .i64 nn, .int .i64 id])
  have HU := Lib.hid hu
  have HUP := Lib.hid (h.upl u (List.mem_of_getElem? hu))
  have huf := h.uf
  have hSl : S < w.heap.size := (Array.getElem?_eq_some_iff.1 h.blk).1
  have hul : i < σ.ups.length := (List.getElem?_eq_some_iff.1 hu).1
  clear h hu
  go_enter Tryz.func34, Tryz.ntmps34
  go_upto_region 1 with fail
  obtain ⟨W0, hW0⟩ : ∃ W0, W0 = (w.alloc (.cells #[.int .i64 ki, .string ky, .slice a n c, .int .i64 vr, .int .i64 at_, .int .i64 nn, .int .i64 id] 34)).alloc (.cells zrep 43) := ⟨_, rfl⟩
  rw [← hW0] at HE
  unfold zrep at hW0
  rw [← hW0]
  clear hW0
  have hz0 := HE.out.sz
  have hk0 : w.heap.size < W0.heap.size := by omega
  have hr0 : w.heap.size + 1 < W0.heap.size := by omega
  have hS0 : S < W0.heap.size := by omega
  have HZ0 := Lib.hid hz0
  clear hz0
  have HV0 := Lib.hid HE.out.st.ups
  obtain ⟨gb, off, hga, hgl, _, hgc⟩ := HV0.out.get hul
  have hgd : σ.ups.getD i DUplS.z = u := by rw [List.getD_eq_getElem?_getD, HU.out]; rfl
  rw [hgd] at hgc
  obtain ⟨uid, ub, uk, pa, pn, pc, parts⟩ := u
  have v0 : W0.cell? ⟨gb, off + i * 4, none⟩ = some (.int .i64 uid) := hgc 0 _ rfl
  have v1 : W0.cell? ⟨gb, off + i * 4 + 1, none⟩ = some (.int .i64 ub) := hgc 1 _ rfl
  have v2 : W0.cell? ⟨gb, off + i * 4 + 2, none⟩ = some (.string uk) := hgc 2 _ rfl
  have v3 : W0.cell? ⟨gb, off + i * 4 + 3, none⟩ = some (.slice pa pn pc) := hgc 3 _ rfl
  have c1 := cell_blkD HE.out.st.blk (i := 1) (u := .slice σ.ua σ.ups.length σ.uc) rfl
  rw [hga] at c1
  obtain ⟨m9, hm9⟩ : ∃ m9, m9 = σ.ups.length := ⟨_, rfl⟩
  obtain ⟨uc9, huc9⟩ : ∃ uc9, uc9 = σ.uc := ⟨_, rfl⟩
  rw [← hm9, ← huc9] at c1
  have HUL := Lib.hid hul
  rw [← hm9] at hul huf
  have HM9 := Lib.hid (And.intro hm9 huc9)
  have zi : (i : Int) < (m9 : Int) := by omega
  have zi0 : (0 : Int) ≤ (i : Int) := by omega
  have hpn := HUP.out.few
  have hpl := HUP.out.len
  have HPL := Lib.hid (show parts.length = pn from hpl)
  have HV := Lib.hid (show VecAt DPrtS W0 pa pn pc parts from (VecAt.ofOwn HUP.out.row hpl (fun _ _ => trivial)).kept HE.out.bel)
  have hpc := HV.out.cap
  have hpcm := HV.out.capm
  obtain ⟨b7, hb7⟩ : ∃ b7, b7 = W0.heap.size := ⟨_, rfl⟩
  obtain ⟨W7, hW7⟩ : ∃ W7, W7 = W0.alloc (.cells #[.int .i64 uid, .int .i64 ub, .string uk, .slice pa pn pc] 65) := ⟨_, rfl⟩
  have hB7 : Below W0.heap.size W0 W7 := by rw [hW7]; exact (Below.refl _ _).alloc (Nat.le_refl _) _
  have hK7 : W7.heap[b7]? = some (.cells #[.int .i64 uid, .int .i64 ub, .string uk, .slice pa pn pc] 65 (0, 0)) := by rw [hW7, hb7]; exact heap_alloc_newD W0 _
  have HB7 := Lib.hid hB7
  have HK7 := Lib.hid hK7
  have HW7 := Lib.hid hW7
  have HBE7 := Lib.hid hb7
  clear hm9 huc9 hgc hgd hga hgl hpl hW7 hB7 hK7
  go_upto_region 2 with fail
  rw [← HW7.out, ← HBE7.out]
  clear v0 v1 v2 v3 c1 hb7
  have k5 := cell_blkD (cells_of_below HB7.out HE.out.cb) (i := 5) (u := .int .i64 nn) rfl
  have d3 := cell_blkD HK7.out (i := 3) (u := .slice pa pn pc) rfl
  by_cases h1 : nn < 1
  case pos =>
    have HER := Lib.hid (show comDE σ ⟨uid, ub, uk, pa, pn, pc, parts⟩ nn = 4 from by unfold comDE; rw [if_pos (.inl h1)])
    go_wp2_with fail
    refine (dbad_any 4 W7).mono ?_
    rintro e wE ⟨rfl, hbE⟩
    unfold repA
    have hbe := HB7.out.trans (hbE.mono HB7.out.size)
    have hrb := (hbe.block (w.heap.size + 1) hr0).trans HE.out.rb
    obtain ⟨⟨q0, q1, q2, q3, q4, q5, q6⟩, r0, r1, r2, r3, r4, r5, r6⟩ := rb_cells hrb
    have HST := Lib.hid (HE.out.st.below hbe)
    have HFR := Lib.hid (show Frm (DF S σ) w wE from Frm.ofBelow (HE.out.bel.trans (hbe.mono HE.out.bel.size)))
    have HRB := Lib.hid hrb
    clear hbE hbe hrb
    go_wp2_with fail
    clear q0 q1 q2 q3 q4 q5 q6 r0 r1 r2 r3 r4 r5 r6
    obtain ⟨W5, hW5⟩ : ∃ W5, W5 = setR wE (w.heap.size + 1) (.int .i64 4) (.slice none 0 0) (.int .i64 0) (.int .i64 0) (.int .i64 0) (.slice none 0 0) (.bool false) := ⟨_, rfl⟩
    have hr5 := setR_at0 HRB.out (.int .i64 4) (.slice none 0 0) (.int .i64 0) (.int .i64 0) (.int .i64 0) (.slice none 0 0) (.bool false)
    have hF5 := (Frm.refl (fun b => b = w.heap.size + 1) wE).setR (R := w.heap.size + 1) (.inl rfl) (.int .i64 4) (.slice none 0 0) (.int .i64 0) (.int .i64 0) (.int .i64 0) (.slice none 0 0) (.bool false)
    rw [← hW5] at hr5 hF5
    unfold setR at hW5
    rw [← hW5]
    have hfin := put_done HST.out HRB.out (Nat.le_succ _) HFR.out hF5
    exact bodyPost_ret (ret_rep rfl _ _ (w.heap.size + 1) rfl hr5) rfl (ComDP.no HER.out (by decide) hfin)
  by_cases h2 : nn = (pn : Int)
  case neg =>
    have HNE := Lib.hid (show nn < 1 ∨ nn ≠ (parts.length : Int) from .inr (by rw [HPL.out]; exact h2))
    have HER := Lib.hid (show comDE σ ⟨uid, ub, uk, pa, pn, pc, parts⟩ nn = 4 from by unfold comDE; rw [if_pos HNE.out])
    go_wp2_with fail
    refine (dbad_any 4 W7).mono ?_
    rintro e wE ⟨rfl, hbE⟩
    unfold repA
    have hbe := HB7.out.trans (hbE.mono HB7.out.size)
    have hrb := (hbe.block (w.heap.size + 1) hr0).trans HE.out.rb
    obtain ⟨⟨q0, q1, q2, q3, q4, q5, q6⟩, r0, r1, r2, r3, r4, r5, r6⟩ := rb_cells hrb
    have HST := Lib.hid (HE.out.st.below hbe)
    have HFR := Lib.hid (show Frm (DF S σ) w wE from Frm.ofBelow (HE.out.bel.trans (hbe.mono HE.out.bel.size)))
    have HRB := Lib.hid hrb
    clear hbE hbe hrb
    go_wp2_with fail
    clear q0 q1 q2 q3 q4 q5 q6 r0 r1 r2 r3 r4 r5 r6
    obtain ⟨W5, hW5⟩ : ∃ W5, W5 = setR wE (w.heap.size + 1) (.int .i64 4) (.slice none 0 0) (.int .i64 0) (.int .i64 0) (.int .i64 0) (.slice none 0 0) (.bool false) := ⟨_, rfl⟩
    have hr5 := setR_at0 HRB.out (.int .i64 4) (.slice none 0 0) (.int .i64 0) (.int .i64 0) (.int .i64 0) (.slice none 0 0) (.bool false)
    have hF5 := (Frm.refl (fun b => b = w.heap.size + 1) wE).setR (R := w.heap.size + 1) (.inl rfl) (.int .i64 4) (.slice none 0 0) (.int .i64 0) (.int .i64 0) (.int .i64 0) (.slice none 0 0) (.bool false)
    rw [← hW5] at hr5 hF5
    unfold setR at hW5
    rw [← hW5]
    have hfin := put_done HST.out HRB.out (Nat.le_succ _) HFR.out hF5
    exact bodyPost_ret (ret_rep rfl _ _ (w.heap.size + 1) rfl hr5) rfl (ComDP.no HER.out (by decide) hfin)
  subst h2
  have HOK := Lib.hid (show ¬ ((pn : Int) < 1 ∨ (pn : Int) ≠ (parts.length : Int)) from by rw [HPL.out]; omega)
  have hpn1 : 1 ≤ pn := by omega
  obtain ⟨b8, hb8⟩ : ∃ b8, b8 = W7.heap.size := ⟨_, rfl⟩
  obtain ⟨W8, hW8⟩ : ∃ W8, W8 = W7.alloc (.cells #[] 5) := ⟨_, rfl⟩
  have HB8 := Lib.hid (show Below W7.heap.size W7 W8 from by rw [hW8]; exact (Below.refl _ _).alloc (Nat.le_refl _) _)
  have HO8 := Lib.hid (show W8.ownsRow W7.heap.size 5 1 (.slice (some ⟨b8, 0, none⟩) 0 0) 0 (bv []) from by rw [hW8, hb8]; exact World.ownsRow_lit (base := W7.heap.size) (e := 5) (size := 1) W7 #[] 0 (Nat.le_refl _) (by unfold maxLen; omega) rfl)
  have HW8 := Lib.hid hW8
  have HBE8 := Lib.hid hb8
  clear hW8 hb8
  go_upto_region 5 with fail
  rw [← HW8.out, ← HBE8.out]
  clear k5 d3
  go_wp2_with fail
  go_loopw [8, 9] (fun s8 s9 wr => ∃ (q L c8 : Nat) (a8 : Option Addr) (d : List Nat), q ≤ pn ∧ L ≤ q * 8388608 ∧ s8 = .slice a8 L c8 ∧ s9 = .int .i64 ((q : Int) + 1) ∧ Hid (catD parts q = some d) ∧ Hid (d.length = L) ∧ Hid (∀ x ∈ d, x < 256) ∧ Hid (wr.ownsRow W7.heap.size 5 1 (.slice a8 L c8) L (bv d)) ∧ Hid (Below W7.heap.size W7 wr)) (fun _ s9 _ => pn + 1 - (intOf s9).toNat)
  case atStart => exact ⟨0, 0, 0, _, [], by omega, by omega, rfl, by rfl, Lib.hid rfl, Lib.hid rfl, Lib.hid (fun x hx => by cases hx), HO8, HB8⟩
  case round =>
    clear HO8 HB8
    obtain ⟨q, L, c8, a8, d, hq, hL, rfl, rfl, HC, HDL, HDB, HO, HB⟩ := hrel
    rename World => wr
    have k5 := cell_blkD (cells_of_below HB.out (cells_of_below HB7.out HE.out.cb)) (i := 5) (u := .int .i64 (pn : Int)) rfl
    have d3 := cell_blkD (cells_of_below HB.out HK7.out) (i := 3) (u := .slice pa pn pc) rfl
    by_cases hqn : q < pn
    · have zq : ((q : Int) + 1) ≤ (pn : Int) := by omega
      have wq : IntKind.i64.wrap ((q : Int) + 1 + 1) = (q : Int) + 1 + 1 := IntWalk.i64_in _ (by omega)
      go_wp2_with fail
      clear k5 d3
      go_loopw [8, 10, 42] (fun s8 s10 s42 wq => ∃ (j L2 c2 : Nat) (a2 : Option Addr) (d2 : List Nat) (th : Bool), j ≤ pn ∧ L2 ≤ L + j * 262144 ∧ s8 = .slice a2 L2 c2 ∧ s10 = .bool th ∧ s42 = .int .i64 (j : Int) ∧ Hid (d2 = d ++ matchD (parts.take j) ((q : Int) + 1)) ∧ Hid (th = hasP (parts.take j) ((q : Int) + 1)) ∧ Hid (d2.length = L2) ∧ Hid (∀ x ∈ d2, x < 256) ∧ Hid (wq.ownsRow W7.heap.size 5 1 (.slice a2 L2 c2) L2 (bv d2)) ∧ Hid (Below W7.heap.size W7 wq)) (fun _ _ s42 _ => pn - (intOf s42).toNat)
      case atStart => exact ⟨0, L, c8, a8, d, false, by omega, by omega, rfl, rfl, by rfl, Lib.hid (by rw [List.take_zero]; exact (List.append_nil d).symm), Lib.hid rfl, HDL, HDB, HO, HB⟩
      case round =>
        clear HO HB
        obtain ⟨j, L2, c2, a2, d2, th, hj, hL2, rfl, rfl, rfl, HD2, HTH, HL2, HB2, HO, HB⟩ := hrel
        rename World => wv
        by_cases hin : j < pn
        · obtain ⟨b, off2, rfl, _, _, hc⟩ := (HV.out.kept (HB7.out.trans (HB.out.mono HB7.out.size))).get hin
          have hgl := getD_some (d := DPrtS.z) (show j < parts.length by rw [HV.out.len]; exact hin)
          obtain ⟨x, hxx⟩ : ∃ x, x = parts.getD j DPrtS.z := ⟨_, rfl⟩
          rw [← hxx] at hc hgl
          have hpo := HUP.out.prt x (List.mem_of_getElem? hgl)
          have hsm := hpo.small
          have HFS := Lib.hid (matchD_succ (n := (q : Int) + 1) hgl)
          have HHS := Lib.hid (hasP_succ (n := (q : Int) + 1) hgl)
          have HXB := Lib.hid hpo.bytes
          obtain ⟨xn, xa, xd, xc, xxs⟩ := x
          have k0 : wv.cell? ⟨b, off2 + j * 2, none⟩ = some (.int .i64 xn) := hc 0 _ rfl
          have k1 : wv.cell? ⟨b, off2 + j * 2 + 1, none⟩ = some (.slice xa xd xc) := hc 1 _ rfl
          have hxd : xd ≤ 262144 := hsm
          have HL3 := Lib.hid (show L2 ≤ L + (j + 1) * 262144 ∧ L2 + xd ≤ L + (j + 1) * 262144 from by omega)
          obtain ⟨bx, hbx⟩ : ∃ bx, bx = wv.heap.size := ⟨_, rfl⟩
          obtain ⟨W3, hW3⟩ : ∃ W3, W3 = wv.alloc (.cells #[.int .i64 xn, .slice xa xd xc] 98) := ⟨_, rfl⟩
          have hb3 : Below wv.heap.size wv W3 := by rw [hW3]; exact (Below.refl _ _).alloc (Nat.le_refl _) _
          have hk3 : W3.heap[bx]? = some (.cells #[.int .i64 xn, .slice xa xd xc] 98 (0, 0)) := by rw [hW3, hbx]; exact heap_alloc_newD wv _
          have d0 := cell_blkD hk3 (i := 0) (u := .int .i64 xn) rfl
          have d1 := cell_blkD hk3 (i := 1) (u := .slice xa xd xc) rfl
          have hb37 := HB.out.trans (hb3.mono HB.out.size)
          have HB3 := Lib.hid hb37
          have HO3 := Lib.hid (own_below HO.out hb3)
          have HXB3 := Lib.hid (HXB.out.kept (HE.out.bel.trans ((HB7.out.trans (hb37.mono HB7.out.size)).mono HE.out.bel.size)))
          have HW3 := Lib.hid hW3
          have HBX := Lib.hid hbx
          have zj : (j : Int) < (pn : Int) := by omega
          have zj0 : (0 : Int) ≤ (j : Int) := by omega
          have wj : IntKind.i64.wrap ((j : Int) + 1) = (j : Int) + 1 := IntWalk.i64_in _ (by omega)
          clear hc hxx hgl hpo hsm hbx hW3 hb3 hk3 HB hb37 HO HXB
          go_upto_region 12 with fail
          rw [← HW3.out, ← HBX.out]
          clear k0 k1
          by_cases e : xn = (q : Int) + 1
          · have HF2 := Lib.hid (show d2 ++ xxs = d ++ matchD (parts.take (j + 1)) ((q : Int) + 1) from by rw [HFS.out, if_pos e, ← List.append_assoc, ← HD2.out])
            have HH2 := Lib.hid (show true = hasP (parts.take (j + 1)) ((q : Int) + 1) from by rw [HHS.out, decide_eq_true e, Bool.or_true])
            clear HFS HHS
            subst e
            go_wp2_with (at_builtin; refine wpList_append_bytes rfl (.tmp 50) (.tmp 52) rfl W7.heap.size _ _ d2 rfl HO3.out _ _ _ xxs rfl HXB3.out (by omega) HB3.out.size ?_)
            intro v5 w5 ho5 hg5
            have HB5 := Lib.hid (HB3.out.grown hg5 HB3.out.size (fun k hk => (HO3.out.lt k hk).1))
            obtain ⟨a5, c5, rfl⟩ := own_sliceD ho5
            have HO5 := Lib.hid ho5
            have HBY := Lib.hid (show ∀ x ∈ d2 ++ xxs, x < 256 from fun x hx => (List.mem_append.1 hx).elim (HB2.out x) (HXB3.out.byte x))
            have HLN := Lib.hid (show (d2 ++ xxs).length = L2 + xd from by rw [List.length_append, HL2.out, HXB3.out.len])
            clear ho5 hg5 HO3 d0 d1
            go_wp2_with fail
            go_roundw
            case rel => exact ⟨j + 1, L2 + xd, c5, a5, d2 ++ xxs, true, by omega, HL3.out.2, by first | rfl | (push_cast; rfl), rfl, by push_cast; rfl, HF2, HH2, HLN, HBY, HO5, HB5⟩
            case measure => simp only [intOf]; omega
          · have HF2 := Lib.hid (show d2 = d ++ matchD (parts.take (j + 1)) ((q : Int) + 1) from by rw [HFS.out, if_neg e, List.append_nil]; exact HD2.out)
            have HH2 := Lib.hid (show th = hasP (parts.take (j + 1)) ((q : Int) + 1) from by rw [HHS.out, decide_eq_false e, Bool.or_false]; exact HTH.out)
            have e2 : (xn == (q : Int) + 1) = false := by simpa using e
            go_wp2_with fail
            go_roundw
            case rel => exact ⟨j + 1, L2, c2, a2, d2, th, hin, HL3.out.1, rfl, rfl, by push_cast; rfl, HF2, HH2, HL2, HB2, HO3, HB3⟩
            case measure => simp only [intOf]; omega
        · have hjn : j = pn := by omega
          have htk : parts.take j = parts := by rw [hjn]; exact List.take_of_length_le (by rw [HV.out.len]; exact Nat.le_refl _)
          rw [htk] at HD2 HTH
          have zjn : ¬ (j : Int) < (pn : Int) := by omega
          have eq1 : ((q + 1 : Nat) : Int) = (q : Int) + 1 := by push_cast; rfl
          have HBW := Lib.hid (HB7.out.trans (HB.out.mono HB7.out.size))
          cases th with
          | true =>
            have HC2 := Lib.hid (show catD parts (q + 1) = some d2 from by
              have h9 := catD_yes HC.out (by rw [eq1]; exact HTH.out.symm)
              rw [eq1, ← HD2.out] at h9
              exact h9)
            clear htk eq1
            go_wp2_with fail
            go_roundw
            case rel => exact ⟨q + 1, L2, c2, a2, d2, by omega, by omega, rfl, by push_cast; rfl, HC2, HL2, HB2, HO, HB⟩
            case measure => simp only [intOf]; omega
          | false =>
            have HNO := Lib.hid (catD_no (l := parts) (k := q) (by rw [eq1]; exact HTH.out.symm) pn hqn)
            clear htk eq1
            have HER := Lib.hid (show comDE σ ⟨uid, ub, uk, pa, pn, pc, parts⟩ (pn : Int) = 4 from by unfold comDE; rw [if_neg HOK.out, show ((pn : Int)).toNat = pn from Int.toNat_natCast _]; show (match catD parts pn with | none => (4 : Int) | some d => _) = 4; rw [HNO.out])
            go_wp2_with fail
            refine (dbad_any 4 wv).mono ?_
            rintro e wE ⟨rfl, hbE⟩
            unfold repA
            have hbe := HBW.out.trans (hbE.mono HBW.out.size)
            have hrb := (hbe.block (w.heap.size + 1) hr0).trans HE.out.rb
            obtain ⟨⟨q0, q1, q2, q3, q4, q5, q6⟩, r0, r1, r2, r3, r4, r5, r6⟩ := rb_cells hrb
            have HST := Lib.hid (HE.out.st.below hbe)
            have HFR := Lib.hid (show Frm (DF S σ) w wE from Frm.ofBelow (HE.out.bel.trans (hbe.mono HE.out.bel.size)))
            have HRB := Lib.hid hrb
            clear hbE hbe hrb
            go_wp2_with fail
            clear q0 q1 q2 q3 q4 q5 q6 r0 r1 r2 r3 r4 r5 r6
            obtain ⟨W5, hW5⟩ : ∃ W5, W5 = setR wE (w.heap.size + 1) (.int .i64 4) (.slice none 0 0) (.int .i64 0) (.int .i64 0) (.int .i64 0) (.slice none 0 0) (.bool false) := ⟨_, rfl⟩
            have hr5 := setR_at0 HRB.out (.int .i64 4) (.slice none 0 0) (.int .i64 0) (.int .i64 0) (.int .i64 0) (.slice none 0 0) (.bool false)
            have hF5 := (Frm.refl (fun b => b = w.heap.size + 1) wE).setR (R := w.heap.size + 1) (.inl rfl) (.int .i64 4) (.slice none 0 0) (.int .i64 0) (.int .i64 0) (.int .i64 0) (.slice none 0 0) (.bool false)
            rw [← hW5] at hr5 hF5
            unfold setR at hW5
            rw [← hW5]
            have hfin := put_done HST.out HRB.out (Nat.le_succ _) HFR.out hF5
            exact bodyPost_ret (ret_rep rfl _ _ (w.heap.size + 1) rfl hr5) rfl (ComDP.no HER.out (by decide) hfin)
    · have hqe : q = pn := by omega
      rw [hqe] at HC
      have zq : ¬ ((q : Int) + 1) ≤ (pn : Int) := by omega
      have HCN := Lib.hid (show catD parts ((pn : Int)).toNat = some d from by rw [Int.toNat_natCast]; exact HC.out)
      have HBW := Lib.hid (HB7.out.trans (HB.out.mono HB7.out.size))
      clear d3
      by_cases hlen : 262144 < L
      case pos =>
        have hlen' : (262144 : Int) < (L : Int) := by omega
        have HER := Lib.hid (show comDE σ ⟨uid, ub, uk, pa, pn, pc, parts⟩ (pn : Int) = 5 from by unfold comDE; rw [if_neg HOK.out]; show (match catD parts ((pn : Int)).toNat with | none => (4 : Int) | some d => _) = 5; rw [HCN.out]; show (if 262144 < d.length then (5 : Int) else _) = 5; rw [if_pos (by rw [HDL.out]; exact hlen)])
        go_wp2_with fail
        refine (dbad_any 5 wr).mono ?_
        rintro e wE ⟨rfl, hbE⟩
        unfold repA
        have hbe := HBW.out.trans (hbE.mono HBW.out.size)
        have hrb := (hbe.block (w.heap.size + 1) hr0).trans HE.out.rb
        obtain ⟨⟨q0, q1, q2, q3, q4, q5, q6⟩, r0, r1, r2, r3, r4, r5, r6⟩ := rb_cells hrb
        have HST := Lib.hid (HE.out.st.below hbe)
        have HFR := Lib.hid (show Frm (DF S σ) w wE from Frm.ofBelow (HE.out.bel.trans (hbe.mono HE.out.bel.size)))
        have HRB := Lib.hid hrb
        clear hbE hbe hrb
        go_wp2_with fail
        clear q0 q1 q2 q3 q4 q5 q6 r0 r1 r2 r3 r4 r5 r6
        obtain ⟨W5, hW5⟩ : ∃ W5, W5 = setR wE (w.heap.size + 1) (.int .i64 5) (.slice none 0 0) (.int .i64 0) (.int .i64 0) (.int .i64 0) (.slice none 0 0) (.bool false) := ⟨_, rfl⟩
        have hr5 := setR_at0 HRB.out (.int .i64 5) (.slice none 0 0) (.int .i64 0) (.int .i64 0) (.int .i64 0) (.slice none 0 0) (.bool false)
        have hF5 := (Frm.refl (fun b => b = w.heap.size + 1) wE).setR (R := w.heap.size + 1) (.inl rfl) (.int .i64 5) (.slice none 0 0) (.int .i64 0) (.int .i64 0) (.int .i64 0) (.slice none 0 0) (.bool false)
        rw [← hW5] at hr5 hF5
        unfold setR at hW5
        rw [← hW5]
        have hfin := put_done HST.out HRB.out (Nat.le_succ _) HFR.out hF5
        exact bodyPost_ret (ret_rep rfl _ _ (w.heap.size + 1) rfl hr5) rfl (ComDP.no HER.out (by decide) hfin)
      have hlen' : ¬ (262144 : Int) < (L : Int) := by omega
      have HSW := Lib.hid (HE.out.st.below HBW.out)
      have HAT := Lib.hid (dat_any HSW.out uk)
      have d2 := cell_blkD (cells_of_below HB.out HK7.out) (i := 2) (u := .string uk) rfl
      have c0 := cell_blkD HSW.out.blk (i := 0) (u := .slice σ.oa σ.objs.length σ.oc) rfl
      have HCD := Lib.hid (show ∀ z : Int, (if atK σ.objs uk = -1 ∧ 512 ≤ σ.objs.length then (9 : Int) else 0) = z → comDE σ ⟨uid, ub, uk, pa, pn, pc, parts⟩ (pn : Int) = z from fun z hz => by
        unfold comDE
        rw [if_neg HOK.out]
        show (match catD parts ((pn : Int)).toNat with | none => (4 : Int) | some d => _) = z
        rw [HCN.out]
        show (if 262144 < d.length then (5 : Int) else _) = z
        rw [if_neg (by rw [HDL.out]; exact hlen)]
        exact hz)
      go_upto_region 20 with fail
      rcases atK_neg (l := σ.objs) (k := uk) with ⟨hk1, hk2⟩ | ⟨jo, hk1, hk2⟩
      · by_cases hfl : 512 ≤ σ.objs.length
        case pos =>
          have hfl' : (512 : Int) ≤ (σ.objs.length : Int) := by omega
          have HE9 := Lib.hid (HCD.out 9 (if_pos ⟨hk1, hfl⟩))
          go_wp2_with fail
          refine HAT.out.mono ?_
          rintro e wy ⟨rfl, rfl⟩
          rw [hk1]
          have HER := HE9
          go_wp2_with fail
          refine (dbad_any 9 wy).mono ?_
          rintro e wE ⟨rfl, hbE⟩
          unfold repA
          have hbe := HBW.out.trans (hbE.mono HBW.out.size)
          have hrb := (hbe.block (w.heap.size + 1) hr0).trans HE.out.rb
          obtain ⟨⟨q0, q1, q2, q3, q4, q5, q6⟩, r0, r1, r2, r3, r4, r5, r6⟩ := rb_cells hrb
          have HST := Lib.hid (HE.out.st.below hbe)
          have HFR := Lib.hid (show Frm (DF S σ) w wE from Frm.ofBelow (HE.out.bel.trans (hbe.mono HE.out.bel.size)))
          have HRB := Lib.hid hrb
          clear hbE hbe hrb
          go_wp2_with fail
          clear q0 q1 q2 q3 q4 q5 q6 r0 r1 r2 r3 r4 r5 r6
          obtain ⟨W5, hW5⟩ : ∃ W5, W5 = setR wE (w.heap.size + 1) (.int .i64 9) (.slice none 0 0) (.int .i64 0) (.int .i64 0) (.int .i64 0) (.slice none 0 0) (.bool false) := ⟨_, rfl⟩
          have hr5 := setR_at0 HRB.out (.int .i64 9) (.slice none 0 0) (.int .i64 0) (.int .i64 0) (.int .i64 0) (.slice none 0 0) (.bool false)
          have hF5 := (Frm.refl (fun b => b = w.heap.size + 1) wE).setR (R := w.heap.size + 1) (.inl rfl) (.int .i64 9) (.slice none 0 0) (.int .i64 0) (.int .i64 0) (.int .i64 0) (.slice none 0 0) (.bool false)
          rw [← hW5] at hr5 hF5
          unfold setR at hW5
          rw [← hW5]
          have hfin := put_done HST.out HRB.out (Nat.le_succ _) HFR.out hF5
          exact bodyPost_ret (ret_rep rfl _ _ (w.heap.size + 1) rfl hr5) rfl (ComDP.no HER.out (by decide) hfin)
        case neg =>
          have hfl' : ¬ (512 : Int) ≤ (σ.objs.length : Int) := by omega
          have HE0 := Lib.hid (HCD.out 0 (if_neg (fun g => hfl g.2)))
          have HNW := Lib.hid (show atK σ.objs uk = -1 → σ.objs.length < 512 from fun _ => by omega)
          go_wp2_with fail
          refine HAT.out.mono ?_
          rintro e wy ⟨rfl, rfl⟩
          rw [hk1]
          go_upto_region 22 with fail
          clear d2 c0 k5
          have HDR := Lib.hid (ddrop_any HSW.out HUL.out (Nat.le_trans hbs (Nat.le_trans HE.out.bel.size HBW.out.size)))
          go_wp2_with fail
          refine HDR.out.mono ?_
          rintro e wd ⟨rfl, ⟨ua', uc', hdst⟩, hgd⟩
          have HDST := Lib.hid hdst
          have hgdk : ∀ {b : Nat} {cs : Array Value} {t : TypeId}, wy.heap[b]? = some (.cells cs t (0, 0)) → t ≠ 29 → wd.heap[b]? = some (.cells cs t (0, 0)) := fun {b cs t} hb ht => (hgd.block b (Array.getElem?_eq_some_iff.1 hb).1 (fun e => by
            have e1 : b = S := Option.some.inj e
            rw [e1, HSW.out.blk] at hb
            simp at hb
            exact ht hb.2.symm)).trans hb
          have hkd := hgdk (cells_of_below HB.out HK7.out) (by decide)
          have hrd := hgdk (cells_of_below HBW.out HE.out.rb) (by decide)
          obtain ⟨a9, c9, e9, hbd, _⟩ := BytesAt.ofOwn (HO.out.kept hgd (by
            cases hv : (Value.slice a8 L c8).ownBlock with
            | none => exact .inl rfl
            | some b =>
              refine .inr fun e => ?_
              have e1 : b = S := Option.some.inj e
              obtain ⟨cu, g2⟩ := own_blk_ty HO.out (b := b) (by
                cases a8 with
                | none => cases hv
                | some x => exact hv)
              rw [e1, HSW.out.blk] at g2
              simp at g2)) HDB.out (by omega)
          obtain ⟨ea, _, ec⟩ := Value.slice.inj e9
          rw [← ea, ← ec] at hbd
          have d2 := cell_blkD hkd (i := 2) (u := .string uk) rfl
          have hbsd : base ≤ wd.heap.size := Nat.le_trans hbs (Nat.le_trans HE.out.bel.size (Nat.le_trans HBW.out.size hgd.size))
          have HPT := Lib.hid (dput_any hdst uk hbd hver hbsd (by omega) HNW.out)
          have HFD := Lib.hid (show Frm (DF S σ) w wd from ⟨hgd.os.trans (HE.out.bel.trans (HBW.out.mono HE.out.bel.size)).os, hgd.tape.trans (HE.out.bel.trans (HBW.out.mono HE.out.bel.size)).tape, hgd.output.trans (HE.out.bel.trans (HBW.out.mono HE.out.bel.size)).output, Nat.le_trans (HE.out.bel.trans (HBW.out.mono HE.out.bel.size)).size hgd.size, fun b hb hf => (hgd.block b (Nat.lt_of_lt_of_le hb (HE.out.bel.trans (HBW.out.mono HE.out.bel.size)).size) (fun e => hf (.inl (Option.some.inj e)))).trans ((HE.out.bel.trans (HBW.out.mono HE.out.bel.size)).block b hb)⟩)
          have HRD := Lib.hid hrd
          clear hdst hgd hgdk hkd hrd e9 ea ec hbd
          go_wp2_with fail
          refine HPT.out.mono ?_
          rintro e wp ⟨rfl, oa', oc', da', dc', hst, hfr, hfb⟩
          have HST := Lib.hid hst
          have HFR := Lib.hid (show Frm (DF S σ) w wp from HFD.out.trans hfr (fun b hb => .inl (by
            rcases hb with g | g
            · exact .inl g
            · exact .inr (.inl g))))
          have hrb : wp.heap[w.heap.size + 1]? = some (.cells zrep 43 (0, 0)) := hfr.at HRD.out (fun hb => by
            have h8 : DF S { σ with ua := ua', uc := uc', ups := outK σ.ups i } (w.heap.size + 1) := by
              rcases hb with g | g
              · exact .inl g
              · exact .inr (.inl g)
            obtain ⟨cs', t', g, gt⟩ := HDST.out.ty h8
            rw [HRD.out] at g
            simp at g
            exact rep_notD (g.2 ▸ gt))
          have HRB := Lib.hid hrb
          obtain ⟨⟨q0, q1, q2, q3, q4, q5, q6⟩, r0, r1, r2, r3, r4, r5, r6⟩ := rb_cells hrb
          clear hst hfr hrb d2
          unfold rep
          go_wp2_with fail
          clear q0 q1 q2 q3 q4 q5 q6 r0 r1 r2 r3 r4 r5 r6
          obtain ⟨W5, hW5⟩ : ∃ W5, W5 = setR wp (w.heap.size + 1) (.int .i64 0) (.slice none 0 0) (.int .i64 (σ.ver + 1)) (.int .i64 σ.now) (.int .i64 0) (.slice none 0 0) (.bool false) := ⟨_, rfl⟩
          have hr5 := setR_at0 HRB.out (.int .i64 0) (.slice none 0 0) (.int .i64 (σ.ver + 1)) (.int .i64 σ.now) (.int .i64 0) (.slice none 0 0) (.bool false)
          have hF5 := (Frm.refl (fun b => b = w.heap.size + 1) wp).setR (R := w.heap.size + 1) (.inl rfl) (.int .i64 0) (.slice none 0 0) (.int .i64 (σ.ver + 1)) (.int .i64 σ.now) (.int .i64 0) (.slice none 0 0) (.bool false)
          rw [← hW5] at hr5 hF5
          unfold setR at hW5
          rw [← hW5]
          have hfin := put_done HST.out HRB.out (Nat.le_succ _) HFR.out hF5
          exact bodyPost_ret (ret_rep rfl _ _ (w.heap.size + 1) rfl hr5) rfl ⟨hfin.2, fun e => absurd HE0.out e, fun _ => ⟨d, HCN.out, rfl, ua', uc', oa', oc', da', dc', by rw [HDL.out]; exact hfin.1, fun b hb => Nat.le_trans HFD.out.size (hfb b hb)⟩⟩
      · have HE0 := Lib.hid (HCD.out 0 (if_neg (fun g => by rw [hk1] at g; have := g.1; omega)))
        have HNW := Lib.hid (show atK σ.objs uk = -1 → σ.objs.length < 512 from fun g => by rw [hk1] at g; omega)
        have zjo : ¬ (jo : Int) < 0 := by omega
        go_wp2_with fail
        refine HAT.out.mono ?_
        rintro e wy ⟨rfl, rfl⟩
        rw [hk1]
        go_upto_region 22 with fail
        clear d2 c0 k5
        have HDR := Lib.hid (ddrop_any HSW.out HUL.out (Nat.le_trans hbs (Nat.le_trans HE.out.bel.size HBW.out.size)))
        go_wp2_with fail
        refine HDR.out.mono ?_
        rintro e wd ⟨rfl, ⟨ua', uc', hdst⟩, hgd⟩
        have HDST := Lib.hid hdst
        have hgdk : ∀ {b : Nat} {cs : Array Value} {t : TypeId}, wy.heap[b]? = some (.cells cs t (0, 0)) → t ≠ 29 → wd.heap[b]? = some (.cells cs t (0, 0)) := fun {b cs t} hb ht => (hgd.block b (Array.getElem?_eq_some_iff.1 hb).1 (fun e => by
          have e1 : b = S := Option.some.inj e
          rw [e1, HSW.out.blk] at hb
          simp at hb
          exact ht hb.2.symm)).trans hb
        have hkd := hgdk (cells_of_below HB.out HK7.out) (by decide)
        have hrd := hgdk (cells_of_below HBW.out HE.out.rb) (by decide)
        obtain ⟨a9, c9, e9, hbd, _⟩ := BytesAt.ofOwn (HO.out.kept hgd (by
          cases hv : (Value.slice a8 L c8).ownBlock with
          | none => exact .inl rfl
          | some b =>
            refine .inr fun e => ?_
            have e1 : b = S := Option.some.inj e
            obtain ⟨cu, g2⟩ := own_blk_ty HO.out (b := b) (by
              cases a8 with
              | none => cases hv
              | some x => exact hv)
            rw [e1, HSW.out.blk] at g2
            simp at g2)) HDB.out (by omega)
        obtain ⟨ea, _, ec⟩ := Value.slice.inj e9
        rw [← ea, ← ec] at hbd
        have d2 := cell_blkD hkd (i := 2) (u := .string uk) rfl
        have hbsd : base ≤ wd.heap.size := Nat.le_trans hbs (Nat.le_trans HE.out.bel.size (Nat.le_trans HBW.out.size hgd.size))
        have HPT := Lib.hid (dput_any hdst uk hbd hver hbsd (by omega) HNW.out)
        have HFD := Lib.hid (show Frm (DF S σ) w wd from ⟨hgd.os.trans (HE.out.bel.trans (HBW.out.mono HE.out.bel.size)).os, hgd.tape.trans (HE.out.bel.trans (HBW.out.mono HE.out.bel.size)).tape, hgd.output.trans (HE.out.bel.trans (HBW.out.mono HE.out.bel.size)).output, Nat.le_trans (HE.out.bel.trans (HBW.out.mono HE.out.bel.size)).size hgd.size, fun b hb hf => (hgd.block b (Nat.lt_of_lt_of_le hb (HE.out.bel.trans (HBW.out.mono HE.out.bel.size)).size) (fun e => hf (.inl (Option.some.inj e)))).trans ((HE.out.bel.trans (HBW.out.mono HE.out.bel.size)).block b hb)⟩)
        have HRD := Lib.hid hrd
        clear hdst hgd hgdk hkd hrd e9 ea ec hbd
        go_wp2_with fail
        refine HPT.out.mono ?_
        rintro e wp ⟨rfl, oa', oc', da', dc', hst, hfr, hfb⟩
        have HST := Lib.hid hst
        have HFR := Lib.hid (show Frm (DF S σ) w wp from HFD.out.trans hfr (fun b hb => .inl (by
          rcases hb with g | g
          · exact .inl g
          · exact .inr (.inl g))))
        have hrb : wp.heap[w.heap.size + 1]? = some (.cells zrep 43 (0, 0)) := hfr.at HRD.out (fun hb => by
          have h8 : DF S { σ with ua := ua', uc := uc', ups := outK σ.ups i } (w.heap.size + 1) := by
            rcases hb with g | g
            · exact .inl g
            · exact .inr (.inl g)
          obtain ⟨cs', t', g, gt⟩ := HDST.out.ty h8
          rw [HRD.out] at g
          simp at g
          exact rep_notD (g.2 ▸ gt))
        have HRB := Lib.hid hrb
        obtain ⟨⟨q0, q1, q2, q3, q4, q5, q6⟩, r0, r1, r2, r3, r4, r5, r6⟩ := rb_cells hrb
        clear hst hfr hrb d2
        unfold rep
        go_wp2_with fail
        clear q0 q1 q2 q3 q4 q5 q6 r0 r1 r2 r3 r4 r5 r6
        obtain ⟨W5, hW5⟩ : ∃ W5, W5 = setR wp (w.heap.size + 1) (.int .i64 0) (.slice none 0 0) (.int .i64 (σ.ver + 1)) (.int .i64 σ.now) (.int .i64 0) (.slice none 0 0) (.bool false) := ⟨_, rfl⟩
        have hr5 := setR_at0 HRB.out (.int .i64 0) (.slice none 0 0) (.int .i64 (σ.ver + 1)) (.int .i64 σ.now) (.int .i64 0) (.slice none 0 0) (.bool false)
        have hF5 := (Frm.refl (fun b => b = w.heap.size + 1) wp).setR (R := w.heap.size + 1) (.inl rfl) (.int .i64 0) (.slice none 0 0) (.int .i64 (σ.ver + 1)) (.int .i64 σ.now) (.int .i64 0) (.slice none 0 0) (.bool false)
        rw [← hW5] at hr5 hF5
        unfold setR at hW5
        rw [← hW5]
        have hfin := put_done HST.out HRB.out (Nat.le_succ _) HFR.out hF5
        exact bodyPost_ret (ret_rep rfl _ _ (w.heap.size + 1) rfl hr5) rfl ⟨hfin.2, fun e => absurd HE0.out e, fun _ => ⟨d, HCN.out, rfl, ua', uc', oa', oc', da', dc', by rw [HDL.out]; exact hfin.1, fun b hb => Nat.le_trans HFD.out.size (hfb b hb)⟩⟩
end Go.Proofs.YtjafagfhkpaciaaGreat
end PkSP2_9
section PkSP2_10
/- The document's Do, what its walks share. -/
namespace Go.Proofs.YtjafagfhkpaciaaGreat
open Go.RowKit
set_option linter.unusedVariables false

theorem DEnt.drewN {w W : World} {S base : Nat} {σ : DSto} {cs : Array Value} (h : DEnt w W S base σ cs) (k : Nat) : DEnt w (W.drewN k) S base σ cs :=
  ⟨h.st.drewN k, h.cb, h.rb, h.sz, ⟨h.bel.os, h.bel.tape, h.bel.output, h.bel.size, h.bel.block⟩⟩
theorem openK_neg {l : List DUpl} {k : Int} : (openK l k = -1 ∧ l.findIdx? (fun u => decide (u.id = k)) = none) ∨ ∃ j : Nat, openK l k = (j : Int) ∧ l.findIdx? (fun u => decide (u.id = k)) = some j := by
  unfold openK
  cases l.findIdx? (fun u => decide (u.id = k)) with
  | none => exact .inl ⟨rfl, rfl⟩
  | some j => exact .inr ⟨j, rfl, rfl⟩
theorem find_at {α : Type} {p : α → Bool} {l : List α} {j : Nat} (h : l.findIdx? p = some j) : ∃ x, l[j]? = some x ∧ p x = true ∧ j < l.length := by
  obtain ⟨h1, h2, _⟩ := List.findIdx?_eq_some_iff_getElem.1 h
  exact ⟨l[j], List.getElem?_eq_getElem h1, h2, h1⟩
/-- an errno, or nothing turned: the form of what a call answers -/
def NoD (w : World) (S base : Nat) (σ : DSto) (x : Int) (e : Ending) (w' : World) : Prop := e = .returned (rep0 x) ∧ DStAt w' S base σ ∧ Frm (DF S σ) w w'
theorem done9 {w W1 w1 w5 : World} {S base R : Nat} {σ σ' : DSto} {cs : Array Value} (hb : Below w.heap.size w W1) (hE : DStAt W1 S base σ) (hR : W1.heap[R]? = some (.cells cs 43 (0, 0))) (hRw : w.heap.size ≤ R) (hf : Frm (DF S σ) W1 w1) (hst : DStAt w1 S base σ') (h5 : Frm (fun b => b = R) w1 w5) : DStAt w5 S base σ' ∧ Frm (DF S σ) w w5 := by
  have hR1 : w1.heap[R]? = some (.cells cs 43 (0, 0)) := hf.at hR (fun hd => by
    obtain ⟨cs', t', g, gt⟩ := hE.ty hd
    rw [hR] at g
    simp at g
    exact rep_notD (g.2 ▸ gt))
  exact ⟨hst.frmT hR1 rep_notD h5, ((Frm.ofBelow hb).trans hf (fun i e => .inl e)).trans h5 (fun i e => .inr (by rw [e]; exact hRw))⟩
theorem rb_kept {W1 w1 : World} {S base R : Nat} {σ : DSto} {cs : Array Value} (hE : DStAt W1 S base σ) (hR : W1.heap[R]? = some (.cells cs 43 (0, 0))) (hf : Frm (DF S σ) W1 w1) : w1.heap[R]? = some (.cells cs 43 (0, 0)) := hf.at hR (fun hd => by
    obtain ⟨cs', t', g, gt⟩ := hE.ty hd
    rw [hR] at g
    simp at g
    exact rep_notD (g.2 ▸ gt))
/-- the kinds of an upload -/
def Do8 (w : World) (S base : Nat) (σ : DSto) (id nn : Int) (n : Nat) (xs : List Nat) (e : Ending) (w' : World) : Prop :=
  match σ.ups.findIdx? (fun u => decide (u.id = id)) with
  | none => NoD w S base σ 7 e w'
  | some j => ∀ u, σ.ups[j]? = some u → PrtDP w S base σ j u nn n xs e w'
def Do9 (w : World) (S base : Nat) (σ : DSto) (id nn : Int) (e : Ending) (w' : World) : Prop :=
  match σ.ups.findIdx? (fun u => decide (u.id = id)) with
  | none => NoD w S base σ 7 e w'
  | some j => ∀ u, σ.ups[j]? = some u → ComDP w S base σ j u nn e w'
def Do10 (w : World) (S base : Nat) (σ : DSto) (id : Int) (e : Ending) (w' : World) : Prop :=
  match σ.ups.findIdx? (fun u => decide (u.id = id)) with
  | none => NoD w S base σ 7 e w'
  | some j => e = .returned (rep0 0) ∧ (∃ ua uc, DStAt w' S base { σ with ua := ua, uc := uc, ups := outK σ.ups j }) ∧ Frm (DF S σ) w w'
theorem PrtDP.shape {w w' : World} {S base : Nat} {σ : DSto} {i : Nat} {u : DUpl} {nn : Int} {n : Nat} {xs : List Nat} {e : Ending} (h : PrtDP w S base σ i u nn n xs e w') : ∃ er, e = .returned (rep0 er) := by
  rcases Classical.em (prtDE σ u nn n = 0) with g | g
  · exact ⟨_, (h.2.2 g).1⟩
  · exact ⟨_, (h.2.1 g).1⟩
theorem PrtDP.out {w W1 w1 w5 : World} {S base R : Nat} {σ : DSto} {i : Nat} {u : DUpl} {nn : Int} {n : Nat} {xs : List Nat} {e : Ending} {cs : Array Value} (h : PrtDP W1 S base σ i u nn n xs e w1) (hb : Below w.heap.size w W1) (hE : DStAt W1 S base σ) (hR : W1.heap[R]? = some (.cells cs 43 (0, 0))) (hRw : w.heap.size ≤ R) (h5 : Frm (fun b => b = R) w1 w5) : PrtDP w S base σ i u nn n xs e w5 := by
  rcases Classical.em (prtDE σ u nn n = 0) with g | g
  · obtain ⟨he, ua, uc, pa, pn, pc, da, dc, hst, hfb⟩ := h.2.2 g
    have hd := done9 hb hE hR hRw h.1 hst h5
    exact ⟨hd.2, fun e0 => absurd g e0, fun _ => ⟨he, ua, uc, pa, pn, pc, da, dc, hd.1, fun b hb' => Nat.le_trans hb.size (hfb b hb')⟩⟩
  · obtain ⟨he, hst⟩ := h.2.1 g
    have hd := done9 hb hE hR hRw h.1 hst h5
    exact ⟨hd.2, fun _ => ⟨he, hd.1⟩, fun e0 => absurd e0 g⟩
theorem ComDP.shape {w w' : World} {S base : Nat} {σ : DSto} {i : Nat} {u : DUpl} {nn : Int} {e : Ending} (h : ComDP w S base σ i u nn e w') : ∃ er v b, e = .returned (rep er (.slice none 0 0) v b 0 (.slice none 0 0) false) := by
  rcases Classical.em (comDE σ u nn = 0) with g | g
  · obtain ⟨d, _, he, _⟩ := h.2.2 g
    exact ⟨_, _, _, he⟩
  · exact ⟨_, 0, 0, (h.2.1 g).1⟩
theorem ComDP.out {w W1 w1 w5 : World} {S base R : Nat} {σ : DSto} {i : Nat} {u : DUpl} {nn : Int} {e : Ending} {cs : Array Value} (h : ComDP W1 S base σ i u nn e w1) (hb : Below w.heap.size w W1) (hE : DStAt W1 S base σ) (hR : W1.heap[R]? = some (.cells cs 43 (0, 0))) (hRw : w.heap.size ≤ R) (h5 : Frm (fun b => b = R) w1 w5) : ComDP w S base σ i u nn e w5 := by
  rcases Classical.em (comDE σ u nn = 0) with g | g
  · obtain ⟨d, hc, he, ua, uc, oa, oc, da, dc, hst, hfb⟩ := h.2.2 g
    have hd := done9 hb hE hR hRw h.1 hst h5
    exact ⟨hd.2, fun e0 => absurd g e0, fun _ => ⟨d, hc, he, ua, uc, oa, oc, da, dc, hd.1, fun b hb' => Nat.le_trans hb.size (hfb b hb')⟩⟩
  · obtain ⟨he, hst⟩ := h.2.1 g
    have hd := done9 hb hE hR hRw h.1 hst h5
    exact ⟨hd.2, fun _ => ⟨he, hd.1⟩, fun e0 => absurd e0 g⟩
end Go.Proofs.YtjafagfhkpaciaaGreat
end PkSP2_10
section PkSP2_11
/- The document's Do: get, piece, delete, create: what comes of them. -/
namespace Go.Proofs.YtjafagfhkpaciaaGreat
open Go.RowKit
set_option linter.unusedVariables false

theorem size_u8D (w : World) : (Go.sizeOf 5).run Tryz.prog w = .ok 1 w := by kernel_rfl
set_option maxRecDepth 100000 in
theorem slice_runD (a : Option Addr) (n c i m : Nat) (him : i + m ≤ c) (w : World) :
    (Instr.slice 32 (.slice a n c) (some (.int .i64 (i : Int))) (some (.int .i64 ((i : Int) + (m : Int)))) none).run Tryz.prog w = .ok (.slice (if c = i then a else a.map (·.add i)) m (c - i)) w := by
  have ht' : Tryz.prog.underlying 32 = some (.slice (Tryz.prog.elem 32)) := by simp [Program.elem, Tryz.underlying32]
  have he : Tryz.prog.elem 32 = 5 := by simp [Program.elem, Tryz.underlying32]
  rw [run_slice_lh w 32 _ _ _ ht' .i64 .i64 _ _ (by omega) (by omega) (by omega), he, size_u8D]
  have e1 : ((i : Int) + (m : Int)).toNat = i + m := by omega
  simp only [Result.andThen, sliced, Int.toNat_natCast, e1, Nat.mul_one]
  congr 2
  omega
theorem BytesAt.subD {w : World} {b off n c : Nat} {xs : List Nat} (h : BytesAt w (some ⟨b, off, none⟩) n c xs) (i m : Nat) (him : i + m ≤ n) (hm : 0 < m) : BytesAt w (some ⟨b, off + i, none⟩) m (c - i) ((xs.drop i).take m) := by
  have hl := h.len
  have hc := h.cap
  have hr := h.reach
  have hcm := h.capm
  refine ⟨by simp; omega, by omega, fun x hx => h.byte x (List.mem_of_mem_drop (List.mem_of_mem_take hx)), by omega, by omega, (fun e => by cases e), fun _ => ?_⟩
  obtain ⟨b', off', ha, hlt, hcell⟩ := h.cells (by omega)
  cases ha
  refine ⟨b, off + i, rfl, hlt, fun k hk => ?_⟩
  rw [Nat.add_assoc, hcell (i + k) (by omega)]
  have e : ((xs.drop i).take m).getD k 0 = xs.getD (i + k) 0 := by
    simp [List.getD, hk]
  rw [e]
theorem BytesAt.subAnyD {w : World} {a : Option Addr} {n c : Nat} {xs : List Nat} (h : BytesAt w a n c xs) (i m : Nat) (him : i + m ≤ n) : BytesAt w (if c = i then a else a.map (·.add i)) m (c - i) ((xs.drop i).take m) := by
  have hc := h.cap
  have hcm := h.capm
  rcases Nat.eq_zero_or_pos m with h0 | hp
  · subst h0
    rw [List.take_zero]
    refine BytesAt.empty _ _ _ (by omega) (fun e => ?_)
    split at e
    · omega
    · have hn : a = none := by cases a with | none => rfl | some _ => simp at e
      have := h.nl hn
      omega
  · obtain ⟨b, off, rfl, _, _⟩ := h.cells (by omega)
    rw [if_neg (by omega)]
    have h4 : (⟨b, off, none⟩ : Addr).add i = ⟨b, off + i, none⟩ := by unfold Addr.add; split <;> simp_all
    simp only [Option.map_some, h4]
    exact h.subD i m him hp
/-- an object's bytes are answered -/
def GetOk (w : World) (S base : Nat) (σ : DSto) (n : Nat) (xs : List Nat) (ver born : Int) (e : Ending) (w' : World) : Prop :=
  ∃ da dc, e = .returned (rep 0 (.slice da n dc) ver born 0 (.slice none 0 0) false) ∧ BytesAt w' da n dc xs ∧ DStAt w' S base σ ∧ Frm (DF S σ) w w'
theorem row_keptR {w w' : World} {base n c N k R : Nat} {e : TypeId} {a : Option Addr} {xs : List Value} {cs : Array Value} {t : TypeId} {fr : Nat × Nat} (h : w.ownsRow base e k (.slice a n c) N xs) (hR : w.heap[R]? = some (.cells cs t fr)) (ht : t ≠ e) (hf : Frm (fun b => b = R) w w') : w'.ownsRow base e k (.slice a n c) N xs :=
  own_same h fun b hb => hf.block b (own_blk_lt h hb).2 fun e1 => by
    obtain ⟨cu, g⟩ := own_blk_ty h hb
    rw [e1, hR] at g
    simp at g
    exact ht g.2.1
theorem getOk_mk {w wB w5 : World} {S base R n : Nat} {σ : DSto} {ta : Option Addr} {tc base' : Nat} {xs : List Nat} {ver born : Int} {cs : Array Value} (ho : wB.ownsRow base' 5 1 (.slice ta n tc) n (bv xs)) (hb : ∀ x ∈ xs, x < 256) (hn : n ≤ 140737488351232) (hR : wB.heap[R]? = some (.cells cs 43 (0, 0))) (hf : Frm (fun b => b = R) wB w5) (hd : DStAt w5 S base σ ∧ Frm (DF S σ) w w5) : GetOk w S base σ n xs ver born (.returned (rep 0 (.slice ta n tc) ver born 0 (.slice none 0 0) false)) w5 := by
  obtain ⟨a, c, e, hby, _⟩ := BytesAt.ofOwn (row_keptR ho hR (by decide) hf) hb hn
  obtain ⟨e1, _, e2⟩ := Value.slice.inj e
  rw [← e1, ← e2] at hby
  exact ⟨ta, tc, rfl, hby, hd.1, hd.2⟩
def Do3 (w : World) (S base : Nat) (σ : DSto) (ky : ByteArray) (e : Ending) (w' : World) : Prop :=
  match σ.objs.findIdx? (fun o => decide (o.key = ky)) with
  | none => NoD w S base σ 7 e w'
  | some j => ∀ o, σ.objs[j]? = some o → GetOk w S base σ o.dn o.data o.ver o.born e w'
def pieDE (n : Nat) (at_ nn : Int) : Int := if at_ < 0 ∨ nn < 0 ∨ (n : Int) < at_ ∨ (n : Int) - at_ < nn then 2 else 0
def Do4 (w : World) (S base : Nat) (σ : DSto) (ky : ByteArray) (at_ nn : Int) (e : Ending) (w' : World) : Prop :=
  match σ.objs.findIdx? (fun o => decide (o.key = ky)) with
  | none => NoD w S base σ 7 e w'
  | some j => ∀ o, σ.objs[j]? = some o → (pieDE o.dn at_ nn ≠ 0 → NoD w S base σ 2 e w') ∧ (pieDE o.dn at_ nn = 0 → GetOk w S base σ nn.toNat ((o.data.drop at_.toNat).take nn.toNat) o.ver o.born e w')
/-- the object of a key -/
def objD (σ : DSto) (ky : ByteArray) : Option DObj := match σ.objs.findIdx? (fun o => decide (o.key = ky)) with | none => none | some j => σ.objs[j]?
def dVer (σ : DSto) (ky : ByteArray) : Int := match objD σ ky with | none => 0 | some o => o.ver
def dHad (σ : DSto) (ky : ByteArray) : Nat := match objD σ ky with | none => 0 | some o => o.dn
def putDE (σ : DSto) (ki : Int) (ky : ByteArray) (vr : Int) (n : Nat) : Int :=
  if isKeyB ky = false then 1 else if ki = 2 ∧ vr ≠ dVer σ ky then 8 else if 262144 < n then 5
  else if ((objD σ ky).isNone = true ∧ 512 ≤ σ.objs.length) ∨ 4194304 < ((osum σ.objs + usum σ.ups : Nat) : Int) - (dHad σ ky : Int) + (n : Int) then 9 else 0
def Do1 (w : World) (S base : Nat) (σ : DSto) (ki : Int) (ky : ByteArray) (vr : Int) (n : Nat) (xs : List Nat) (e : Ending) (w' : World) : Prop :=
  (putDE σ ki ky vr n ≠ 0 → NoD w S base σ (putDE σ ki ky vr n) e w') ∧
  (putDE σ ki ky vr n = 0 → e = .returned (rep 0 (.slice none 0 0) (σ.ver + 1) σ.now 0 (.slice none 0 0) false) ∧ (∃ oa oc da dc, DStAt w' S base { σ with oa := oa, oc := oc, objs := putL σ.objs ⟨ky, da, n, dc, xs, σ.ver + 1, σ.now⟩, ver := σ.ver + 1 } ∧ (∀ b, blkOf da = some b → w.heap.size ≤ b)) ∧ Frm (DF S σ) w w')
theorem Do1.no {w w' : World} {S base : Nat} {σ : DSto} {ki : Int} {ky : ByteArray} {vr : Int} {n : Nat} {xs : List Nat} {x : Int} (h : putDE σ ki ky vr n = x) (hx : x ≠ 0) (Z : DStAt w' S base σ ∧ Frm (DF S σ) w w') : Do1 w S base σ ki ky vr n xs (.returned (rep0 x)) w' :=
  ⟨fun _ => by rw [h]; exact ⟨rfl, Z⟩, fun e => absurd (h.symm.trans e) hx⟩
def Do6 (w : World) (S base : Nat) (σ : DSto) (ky : ByteArray) (e : Ending) (w' : World) : Prop :=
  match σ.objs.findIdx? (fun o => decide (o.key = ky)) with
  | none => NoD w S base σ 7 e w'
  | some j => e = .returned (rep0 0) ∧ (∃ oa oc, DStAt w' S base { σ with oa := oa, oc := oc, objs := outK σ.objs j }) ∧ Frm (DF S σ) w w'
def Do7 (w : World) (S base : Nat) (σ : DSto) (ky : ByteArray) (e : Ending) (w' : World) : Prop :=
  (isKeyB ky = false → NoD w S base σ 1 e w') ∧ (isKeyB ky = true → 512 ≤ σ.ups.length → NoD w S base σ 9 e w') ∧
  (isKeyB ky = true → σ.ups.length < 512 → e = .returned (rep 0 (.slice none 0 0) 0 σ.now (σ.id + 1) (.slice none 0 0) false) ∧ (∃ ua uc, DStAt w' S base { σ with ua := ua, uc := uc, id := σ.id + 1, ups := σ.ups ++ [⟨σ.id + 1, σ.now, ky, none, 0, 0, []⟩] }) ∧ Frm (DF S σ) w w')
theorem ownBlk (a : Option Addr) (n c : Nat) : (Value.slice a n c).ownBlock = blkOf a := by cases a <;> rfl
/-- the uploads' row has grown, where it was or anew, and is laid -/
theorem DStAt.upsNew {w w' : World} {S base : Nat} {σ : DSto} (h : DStAt w S base σ) (hg : w.grownBy w' (blkOf σ.ua)) {a : Option Addr} {c N : Nat} {us : List DUpl} (hr : w'.ownsRow base 65 4 (.slice a N c) N (DUplS.flat us)) (hN : N = us.length) (hu : ∀ u ∈ us, u ∈ σ.ups ∨ (u.pn = 0 ∧ u.pa = none ∧ u.pc = 0 ∧ u.parts = [])) (hl : us.length ≤ 512) : DStAt (w'.setCell ⟨S, 1, none⟩ (.slice a N c)) S base { σ with ua := a, uc := c, ups := us } := by
  subst hN
  have hS : blkOf σ.ua ≠ some S := fun e => by
    obtain ⟨cu, g⟩ := own_blk_ty h.urow e
    rw [h.blk] at g
    simp at g
  have hblk : w'.heap[S]? = _ := (hg.block S (Array.getElem?_eq_some_iff.1 h.blk).1 (fun e => hS e.symm)).trans h.blk
  have hset := heap_setCell_same w' S 1 _ _ (.slice a us.length c) hblk
  have hoth : ∀ b, b ≠ S → (w'.setCell ⟨S, 1, none⟩ (.slice a us.length c)).heap[b]? = w'.heap[b]? := fun b hb => heap_setCell_other w' ⟨S, 1, none⟩ b _ hb
  have hrow : ∀ {n c' N k : Nat} {e : TypeId} {a' : Option Addr} {xs : List Value}, w.ownsRow base e k (.slice a' n c') N xs → e ≠ 65 → e ≠ 29 → (w'.setCell ⟨S, 1, none⟩ (.slice a us.length c)).ownsRow base e k (.slice a' n c') N xs := fun {n c' N k e a' xs} hx h1 h2 => own_same hx fun b hb => by
    obtain ⟨cu, g⟩ := own_blk_ty hx hb
    refine (hoth b fun e1 => ?_).trans (hg.block b (own_blk_lt hx hb).2 fun e1 => ?_)
    · rw [e1, h.blk] at g; simp at g; exact h2 g.2.symm
    · obtain ⟨cu2, g2⟩ := own_blk_ty h.urow e1.symm
      rw [g] at g2; simp at g2; exact h1 g2.2
  refine ⟨by rw [hset]; simp, hrow h.orow (by decide) (by decide), own_same hr (fun b hb => hoth b fun e1 => ?_), fun o ho => ⟨hrow (h.obj o ho).row (by decide) (by decide), (h.obj o ho).byte, (h.obj o ho).len, (h.obj o ho).small⟩, fun u hm => ?_, h.of, hl⟩
  · obtain ⟨cu, g⟩ := own_blk_ty hr hb
    rw [e1, hblk] at g
    simp at g
  · rcases hu u hm with g | ⟨g1, g2, g3, g4⟩
    · exact ⟨hrow (h.upl u g).row (by decide) (by decide), (h.upl u g).len, (h.upl u g).few, fun p hp => ⟨hrow ((h.upl u g).prt p hp).row (by decide) (by decide), ((h.upl u g).prt p hp).byte, ((h.upl u g).prt p hp).len, ((h.upl u g).prt p hp).small⟩⟩
    · refine ⟨?_, by rw [g4, g1]; rfl, by rw [g1]; omega, fun p hp => by rw [g4] at hp; cases hp⟩
      rw [g1, g2, g3, g4]
      exact World.ownsRow_nil _ _ _ _
end Go.Proofs.YtjafagfhkpaciaaGreat
end PkSP2_11
