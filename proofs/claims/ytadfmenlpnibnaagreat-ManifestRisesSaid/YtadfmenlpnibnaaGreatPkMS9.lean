/- Texts put together by packtpl2.py: ApA, ApDi, MfJ. -/
import Derived.Test.YtadfmenlpnibnaaGreatPkMS2
import Derived.Test.YtadfmenlpnibnaaGreatPkMS6
import Derived.Test.YtadfmenlpnibnaaGreatPkMS8
import Derived.Lib.MinMax
section PkMS9_0
/- Apply: package manifest's, of any manifest and any edit, walked. Written by genapa.py. -/
namespace Go.Proofs.YtadfmenlpnibnaaGreat
open Go.RowKit Go.Shelf LabPlain
set_option linter.unusedVariables false

theorem set6A {v : World} {R : Nat} {c0 c1 c2 c3 c4 c5 : Value} {t : TypeId} (g : v.heap[R]? = some (.cells #[c0, c1, c2, c3, c4, c5] t (0, 0))) (x0 x1 x2 x3 x4 x5 : Value) : ((((((v.setCell ⟨R, 0, none⟩ x0).setCell ⟨R, 1, none⟩ x1).setCell ⟨R, 2, none⟩ x2).setCell ⟨R, 3, none⟩ x3).setCell ⟨R, 4, none⟩ x4).setCell ⟨R, 5, none⟩ x5).heap[R]? = some (.cells #[x0, x1, x2, x3, x4, x5] t (0, 0)) := by
  have h := heap_set (heap_set (heap_set (heap_set (heap_set (heap_set g 0 x0) 1 x1) 2 x2) 3 x3) 4 x4) 5 x5
  simp only [List.setIfInBounds_toArray, List.set_cons_zero, List.set_cons_succ] at h
  exact h
theorem below6A {B R : Nat} {w v : World} (h : Below B w v) (hR : B ≤ R) (x0 x1 x2 x3 x4 x5 : Value) : Below B w ((((((v.setCell ⟨R, 0, none⟩ x0).setCell ⟨R, 1, none⟩ x1).setCell ⟨R, 2, none⟩ x2).setCell ⟨R, 3, none⟩ x3).setCell ⟨R, 4, none⟩ x4).setCell ⟨R, 5, none⟩ x5) :=
  (((((h.setCell (p := ⟨R, 0, none⟩) hR x0).setCell (p := ⟨R, 1, none⟩) hR x1).setCell (p := ⟨R, 2, none⟩) hR x2).setCell (p := ⟨R, 3, none⟩) hR x3).setCell (p := ⟨R, 4, none⟩) hR x4).setCell (p := ⟨R, 5, none⟩) hR x5
theorem frm6A {F : Nat → Prop} {R : Nat} {w v : World} (h : Frm F w v) (hR : F R ∨ w.heap.size ≤ R) (x0 x1 x2 x3 x4 x5 : Value) : Frm F w ((((((v.setCell ⟨R, 0, none⟩ x0).setCell ⟨R, 1, none⟩ x1).setCell ⟨R, 2, none⟩ x2).setCell ⟨R, 3, none⟩ x3).setCell ⟨R, 4, none⟩ x4).setCell ⟨R, 5, none⟩ x5) :=
  (((((h.set hR 0 x0).set hR 1 x1).set hR 2 x2).set hR 3 x3).set hR 4 x4).set hR 5 x5
theorem own_frm {F : Nat → Prop} {w w' : World} {base : Nat} {e : TypeId} {k n : Nat} {v : Value} {xs : List Value} (h : w.ownsRow base e k v n xs) (hF : Frm F w w') (hn : ∀ b, base ≤ b → ¬ F b) : w'.ownsRow base e k v n xs :=
  ⟨h.1, h.2.imp id fun ⟨g, cap, cur, he, hg, hh, r⟩ => ⟨g, cap, cur, he, hg, hF.at hh (hn g hg), r⟩⟩
theorem own_base {w : World} {base b0 : Nat} {e : TypeId} {k n : Nat} {v : Value} {xs : List Value} (h : w.ownsRow base e k v n xs) (hb : b0 ≤ base) : w.ownsRow b0 e k v n xs :=
  ⟨h.1, h.2.imp id fun ⟨g, cap, cur, he, hg, r⟩ => ⟨g, cap, cur, he, Nat.le_trans hb hg, r⟩⟩
/-- Apply's boxes: the manifest, the edit, the result -/
structure T3 (w W : World) (mv dv : Array Value) : Prop where
  below : Below w.heap.size w W
  g2 : W.heap[w.heap.size]? = some (.cells mv 26 (0, 0))
  g3 : W.heap[w.heap.size + 1]? = some (.cells dv 31 (0, 0))
  g4 : W.heap[w.heap.size + 1 + 1]? = some (.cells #[.int .i64 0, .int .i64 0, .int .i64 0, .slice none 0 0, .slice none 0 0, .slice none 0 0] 26 (0, 0))
theorem T3.lt {w W : World} {mv dv : Array Value} (h : T3 w W mv dv) : w.heap.size + 1 + 1 < W.heap.size := (Array.getElem?_eq_some_iff.1 h.g4).1
theorem T3.frm {w W W' : World} {mv dv : Array Value} {F : Nat → Prop} (h : T3 w W mv dv) (hf : Frm F W W') (hn : ∀ i, F i → w.heap.size + 1 + 1 < i) : T3 w W' mv dv :=
  ⟨h.below.trans (hf.toBelow h.below.size fun i hi => by have := hn i hi; omega), hf.at h.g2 (fun g => by have := hn _ g; omega), hf.at h.g3 (fun g => by have := hn _ g; omega), hf.at h.g4 (fun g => by have := hn _ g; omega)⟩
theorem T3.step {w W W' : World} {mv dv : Array Value} (h : T3 w W mv dv) (hb : Below W.heap.size W W') : T3 w W' mv dv := h.frm (Frm.ofBelow (F := fun _ => False) hb) fun i hi => hi.elim
/-- what Apply answers -/
def ApOut (pf : ByteArray → Int) (m : MaV) (d : EdV) (w : World) (e : Ending) (w' : World) : Prop := ∃ (er : Int) (r : MaV) (ea ma oa : Option Addr) (ec mc oc : Nat), ApIs pf m d er r ∧ e = .returned (.tuple #[.agg #[.int .i64 r.gen, .int .i64 r.cut, .int .i64 r.fence, .slice ea r.ents.length ec, .slice ma r.marks.length mc, .slice oa r.owns.length oc], .int .i64 er]) ∧ w'.ownsRow w.heap.size 42 9 (.slice ea r.ents.length ec) r.ents.length (EntS.flat r.ents) ∧ w'.ownsRow w.heap.size 44 2 (.slice ma r.marks.length mc) r.marks.length (MarkS.flat r.marks) ∧ w'.ownsRow w.heap.size 29 3 (.slice oa r.owns.length oc) r.owns.length (OwnS.flat r.owns) ∧ Below w.heap.size w w'
theorem ApOut.no {pf : ByteArray → Int} {m : MaV} {d : EdV} {w W : World} {k : Int} {R : Nat} (h : ApNo pf m d k) (hk : k ≠ 0) (hb : Below w.heap.size w W) (hR : w.heap.size ≤ R) {x0 x1 x2 x3 x4 x5 : Value} :
    ApOut pf m d w (.returned (.tuple #[.agg #[.int .i64 0, .int .i64 0, .int .i64 0, .slice none 0 0, .slice none 0 0, .slice none 0 0], .int .i64 k])) ((((((W.setCell ⟨R, 0, none⟩ x0).setCell ⟨R, 1, none⟩ x1).setCell ⟨R, 2, none⟩ x2).setCell ⟨R, 3, none⟩ x3).setCell ⟨R, 4, none⟩ x4).setCell ⟨R, 5, none⟩ x5) :=
  ⟨k, ma0, none, none, none, 0, 0, 0, .inl ⟨hk, h, rfl⟩, rfl, World.ownsRow_nil _ _ _ _, World.ownsRow_nil _ _ _ _, World.ownsRow_nil _ _ _ _, below6A hb hR _ _ _ _ _ _⟩
theorem addK_len (ad : List EntV) (l : List (ByteArray × EntV)) : (addK ad l).length ≤ l.length + ad.length := by
  have hi : ∀ (x : ByteArray × EntV) (l : List (ByteArray × EntV)), (insK slit x l).length = l.length + 1 := fun x l => by
    induction l with
    | nil => rfl
    | cons y r ih => unfold insK; split <;> simp [ih]
  induction ad generalizing l with
  | nil => exact Nat.le_refl _
  | cons x r ih =>
    have h1 := ih (putK slit x.key x l)
    have h2 : (putK slit x.key x l).length ≤ l.length + 1 := by
      unfold putK
      rw [hi]
      unfold dropK
      have := List.length_filter_le (fun p : ByteArray × EntV => !(slit p.1).sameKey (slit x.key)) l
      omega
    show (addK r (putK slit x.key x l)).length ≤ _
    simp only [List.length_cons]
    omega
theorem max_if (a b : Int) : (if a < b then b else a) = max a b := by rw [Int.max_def]; split <;> split <;> omega
theorem few_marks {pf : ByteArray → Int} {m : MaV} {d : EdV} (h : m.right pf) (hd : d.right pf) {r : List (Int × Int)} (hr : ∀ x ∈ r, x ∈ d.marks) {out : List (Int × Int)} (ho : MarksOk m.marks r out) : out.length ≤ 64 := by
  have hp := right_parts.1 h
  rcases rise_few (fun x : Int × Int => x.1) 64 (l := out) 1 ho.rise (fun x hx => by
    obtain ⟨k, s⟩ := x
    obtain ⟨_, s', h1⟩ := (ho.mem k s).1 hx
    have h2 : isMarkB (k, s') = true := by
      rcases h1 with h1 | h1
      · exact hp.marks _ h1
      · exact hd.marks _ (hr _ h1)
    unfold isMarkB withinB at h2
    simp only [Bool.and_eq_true, decide_eq_true_eq] at h2
    exact h2.1) with h1 | h1
  · omega
  · rw [h1]; simp
theorem few_owns {pf : ByteArray → Int} {m : MaV} (h : m.right pf) : m.owns.length ≤ 8 := by
  have hp := right_parts.1 h
  rcases rise_few (fun x : Int × Int × Int => x.1) 8 (l := m.owns) 1 hp.riseO (fun x hx => by
    have h2 := hp.owns x hx
    unfold isOwnB withinB at h2
    simp only [Bool.and_eq_true, decide_eq_true_eq] at h2
    exact h2.1) with h1 | h1
  · omega
  · rw [h1]; simp

set_option maxRecDepth 100000 in
set_option maxHeartbeats 16000000 in
theorem apply_any {w : World} (pf : ByteArray → Int) {m : MaV} {d : EdV} {ea ma oa aa da ka : Option Addr} {en ec mn mc on oc an ac dn dc kn kc : Nat} {y0 y1 y2 : Int} (hy : d.by' = (y0, y1, y2)) (hE : VecAt EntS w ea en ec m.ents) (hM : VecAt MarkS w ma mn mc m.marks) (hO : VecAt OwnS w oa on oc m.owns) (hA : VecAt EntS w aa an ac d.add) (hD : VecAt KeyS w da dn dc d.drop) (hK : VecAt MarkS w ka kn kc d.marks) (han : an ≤ 100000) (hdn : dn ≤ 100000)
    (hP : ∀ (W : World) (x : EntV), x ∈ m.ents ∨ x ∈ d.add → Below w.heap.size w W → Calls Tryz.prog 68 #[.string x.part] W fun e w' => ParIs (pf x.part) e ∧ Below W.heap.size W w') :
    Calls Tryz.prog 11 #[.agg #[.int .i64 m.gen, .int .i64 m.cut, .int .i64 m.fence, .slice ea en ec, .slice ma mn mc, .slice oa on oc], .agg #[.slice aa an ac, .slice da dn dc, .slice ka kn kc, .int .i64 d.cut, .int .i64 d.fence, .int .i64 y0, .int .i64 y1, .int .i64 y2]] w fun e w' => ApOut pf m d w e w' := by
  obtain ⟨gen, cut, fen, es, ms, os⟩ := m
  obtain ⟨ad, dr, km, cut', fen', byy⟩ := d
  simp only at hy hE hM hO hA hD hK hP ⊢
  subst hy
  obtain ⟨wa, hwa⟩ : ∃ wa, wa = w.alloc (.cells #[.int .i64 gen, .int .i64 cut, .int .i64 fen, .slice ea en ec, .slice ma mn mc, .slice oa on oc] 26) := ⟨_, rfl⟩
  obtain ⟨wb, hwb⟩ : ∃ wb, wb = wa.alloc (.cells #[.slice aa an ac, .slice da dn dc, .slice ka kn kc, .int .i64 cut', .int .i64 fen', .int .i64 y0, .int .i64 y1, .int .i64 y2] 31) := ⟨_, rfl⟩
  obtain ⟨wc, hwc⟩ : ∃ wc, wc = wb.alloc (.cells #[.int .i64 0, .int .i64 0, .int .i64 0, .slice none 0 0, .slice none 0 0, .slice none 0 0] 26) := ⟨_, rfl⟩
  have sa : wa.heap.size = w.heap.size + 1 := by rw [hwa]; exact Array.size_push _
  have sb : wb.heap.size = w.heap.size + 1 + 1 := by rw [hwb]; show (wa.heap.push _).size = _; rw [Array.size_push, sa]
  have ba : Below w.heap.size w wa := by rw [hwa]; exact (Below.refl _ _).alloc (Nat.le_refl _) _
  have bb : Below w.heap.size w wb := by rw [hwb]; exact ba.alloc ba.size _
  have T0 := Lib.hid (show T3 w wc #[.int .i64 gen, .int .i64 cut, .int .i64 fen, .slice ea en ec, .slice ma mn mc, .slice oa on oc] #[.slice aa an ac, .slice da dn dc, .slice ka kn kc, .int .i64 cut', .int .i64 fen', .int .i64 y0, .int .i64 y1, .int .i64 y2] from ⟨by rw [hwc]; exact bb.alloc bb.size _, by rw [hwc, hao9 _ _ _ (by omega), hwb, hao9 _ _ _ (by omega), hwa]; exact heap_alloc_new _ _, by rw [hwc, hao9 _ _ _ (by omega), hwb, ← sa]; exact heap_alloc_new _ _, by rw [hwc, ← sb]; exact heap_alloc_new _ _⟩)
  have HWC := Lib.hid (show ((w.alloc (.cells #[.int .i64 gen, .int .i64 cut, .int .i64 fen, .slice ea en ec, .slice ma mn mc, .slice oa on oc] 26)).alloc (.cells #[.slice aa an ac, .slice da dn dc, .slice ka kn kc, .int .i64 cut', .int .i64 fen', .int .i64 y0, .int .i64 y1, .int .i64 y2] 31)).alloc (.cells #[.int .i64 0, .int .i64 0, .int .i64 0, .slice none 0 0, .slice none 0 0, .slice none 0 0] 26) = wc from by rw [hwc, hwb, hwa])
  have HE := Lib.hid hE
  have HM := Lib.hid hM
  have HO := Lib.hid hO
  have HA := Lib.hid hA
  have HD := Lib.hid hD
  have HK := Lib.hid hK
  have HP := Lib.hid hP
  have HAN := Lib.hid han
  have HDN := Lib.hid hdn
  have hec1 := hE.cap
  have hec2 := hE.capm
  have hmc1 := hM.cap
  have hmc2 := hM.capm
  have hoc1 := hO.cap
  have hoc2 := hO.capm
  have hac1 := hA.cap
  have hac2 := hA.capm
  have hdc1 := hD.cap
  have hdc2 := hD.capm
  have hkc1 := hK.cap
  have hkc2 := hK.capm
  clear hwa hwb hwc sa sb ba bb hE hM hO hA hD hK hP han hdn
  have HRI := Lib.hid (mright_any pf (s := gen) (d := cut) (hz := fen) (HE.out.kept T0.out.below) (HM.out.kept T0.out.below) (HO.out.kept T0.out.below) (fun W x hx hB => HP.out W x (.inl hx) (T0.out.below.trans (hB.mono T0.out.below.size))))
  have a0 : wc.cell? ⟨w.heap.size, 0, none⟩ = some (.int .i64 gen) := cell_blk T0.out.g2 rfl
  have a1 : wc.cell? ⟨w.heap.size, 1, none⟩ = some (.int .i64 cut) := cell_blk T0.out.g2 rfl
  have a2 : wc.cell? ⟨w.heap.size, 2, none⟩ = some (.int .i64 fen) := cell_blk T0.out.g2 rfl
  have a3 : wc.cell? ⟨w.heap.size, 3, none⟩ = some (.slice ea en ec) := cell_blk T0.out.g2 rfl
  have a4 : wc.cell? ⟨w.heap.size, 4, none⟩ = some (.slice ma mn mc) := cell_blk T0.out.g2 rfl
  have a5 : wc.cell? ⟨w.heap.size, 5, none⟩ = some (.slice oa on oc) := cell_blk T0.out.g2 rfl
  go_enter Tryz.func11, Tryz.ntmps11
  go_wp2_with fail
  rw [HWC.out]
  go_wp2_with fail
  refine HRI.out.mono ?_
  rintro e w1 ⟨⟨r1, rfl, hr1⟩, hb1⟩
  have T1 := Lib.hid (T0.out.step hb1)
  have HR1 := Lib.hid (show r1 = true ↔ MaV.right pf (⟨gen, cut, fen, es, ms, os⟩ : MaV) from by rw [hr1]; unfold MaV.right; simp only [HE.out.len, HM.out.len, HO.out.len])
  clear hb1 hr1 a0 a1 a2 a3 a4 a5
  cases r1 with
  | false =>
    have m0 : w1.cell? ⟨w.heap.size + 1 + 1, 0, none⟩ = some (.int .i64 0) := cell_blk T1.out.g4 rfl
    have m1 : w1.cell? ⟨w.heap.size + 1 + 1, 1, none⟩ = some (.int .i64 0) := cell_blk T1.out.g4 rfl
    have m2 : w1.cell? ⟨w.heap.size + 1 + 1, 2, none⟩ = some (.int .i64 0) := cell_blk T1.out.g4 rfl
    have m3 : w1.cell? ⟨w.heap.size + 1 + 1, 3, none⟩ = some (.slice none 0 0) := cell_blk T1.out.g4 rfl
    have m4 : w1.cell? ⟨w.heap.size + 1 + 1, 4, none⟩ = some (.slice none 0 0) := cell_blk T1.out.g4 rfl
    have m5 : w1.cell? ⟨w.heap.size + 1 + 1, 5, none⟩ = some (.slice none 0 0) := cell_blk T1.out.g4 rfl
    have z0 : w1.frozen? ⟨w.heap.size + 1 + 1, 0, none⟩ = false := fro_blk T1.out.g4 0
    have z1 : w1.frozen? ⟨w.heap.size + 1 + 1, 1, none⟩ = false := fro_blk T1.out.g4 1
    have z2 : w1.frozen? ⟨w.heap.size + 1 + 1, 2, none⟩ = false := fro_blk T1.out.g4 2
    have z3 : w1.frozen? ⟨w.heap.size + 1 + 1, 3, none⟩ = false := fro_blk T1.out.g4 3
    have z4 : w1.frozen? ⟨w.heap.size + 1 + 1, 4, none⟩ = false := fro_blk T1.out.g4 4
    have z5 : w1.frozen? ⟨w.heap.size + 1 + 1, 5, none⟩ = false := fro_blk T1.out.g4 5
    go_wp2_with fail
    refine bodyPost_ret (ret_cell_tmp rfl _ _ (w.heap.size + 1 + 1) 26 #[.int .i64 0, .int .i64 0, .int .i64 0, .slice none 0 0, .slice none 0 0, .slice none 0 0] _ _ rfl (set6A T1.out.g4 _ _ _ _ _ _) Tryz.underlying26 rfl (by kernel_rfl)) rfl ?_
    exact ApOut.no (.form (fun h => by have := HR1.out.2 h.1; cases this)) (by decide) T1.out.below (by omega)
  | true =>
  have HMR := Lib.hid (HR1.out.1 (by simp))
  clear HR1
  have HRE := Lib.hid (redit_any (w := w1) pf (d := (⟨ad, dr, km, cut', fen', (y0, y1, y2)⟩ : EdV)) rfl (HA.out.kept T1.out.below) (HD.out.kept T1.out.below) (HK.out.kept T1.out.below) HAN.out HDN.out (fun W x hx hB => HP.out W x (.inr hx) (T1.out.below.trans (hB.mono T1.out.below.size))))
  have e0 : w1.cell? ⟨w.heap.size + 1, 0, none⟩ = some (.slice aa an ac) := cell_blk T1.out.g3 rfl
  have e1 : w1.cell? ⟨w.heap.size + 1, 1, none⟩ = some (.slice da dn dc) := cell_blk T1.out.g3 rfl
  have e2 : w1.cell? ⟨w.heap.size + 1, 2, none⟩ = some (.slice ka kn kc) := cell_blk T1.out.g3 rfl
  have e3 : w1.cell? ⟨w.heap.size + 1, 3, none⟩ = some (.int .i64 cut') := cell_blk T1.out.g3 rfl
  have e4 : w1.cell? ⟨w.heap.size + 1, 4, none⟩ = some (.int .i64 fen') := cell_blk T1.out.g3 rfl
  have e5 : w1.cell? ⟨w.heap.size + 1, 5, none⟩ = some (.int .i64 y0) := cell_blk T1.out.g3 rfl
  have e6 : w1.cell? ⟨w.heap.size + 1, 6, none⟩ = some (.int .i64 y1) := cell_blk T1.out.g3 rfl
  have e7 : w1.cell? ⟨w.heap.size + 1, 7, none⟩ = some (.int .i64 y2) := cell_blk T1.out.g3 rfl
  go_wp2_with fail
  refine HRE.out.mono ?_
  rintro e w2 ⟨⟨r2, rfl, hr2⟩, hb2⟩
  have T2 := Lib.hid (T1.out.step hb2)
  have HR2 := Lib.hid hr2
  clear hb2 hr2 e0 e1 e2 e3 e4 e5 e6 e7
  cases r2 with
  | false =>
    have m0 : w2.cell? ⟨w.heap.size + 1 + 1, 0, none⟩ = some (.int .i64 0) := cell_blk T2.out.g4 rfl
    have m1 : w2.cell? ⟨w.heap.size + 1 + 1, 1, none⟩ = some (.int .i64 0) := cell_blk T2.out.g4 rfl
    have m2 : w2.cell? ⟨w.heap.size + 1 + 1, 2, none⟩ = some (.int .i64 0) := cell_blk T2.out.g4 rfl
    have m3 : w2.cell? ⟨w.heap.size + 1 + 1, 3, none⟩ = some (.slice none 0 0) := cell_blk T2.out.g4 rfl
    have m4 : w2.cell? ⟨w.heap.size + 1 + 1, 4, none⟩ = some (.slice none 0 0) := cell_blk T2.out.g4 rfl
    have m5 : w2.cell? ⟨w.heap.size + 1 + 1, 5, none⟩ = some (.slice none 0 0) := cell_blk T2.out.g4 rfl
    have z0 : w2.frozen? ⟨w.heap.size + 1 + 1, 0, none⟩ = false := fro_blk T2.out.g4 0
    have z1 : w2.frozen? ⟨w.heap.size + 1 + 1, 1, none⟩ = false := fro_blk T2.out.g4 1
    have z2 : w2.frozen? ⟨w.heap.size + 1 + 1, 2, none⟩ = false := fro_blk T2.out.g4 2
    have z3 : w2.frozen? ⟨w.heap.size + 1 + 1, 3, none⟩ = false := fro_blk T2.out.g4 3
    have z4 : w2.frozen? ⟨w.heap.size + 1 + 1, 4, none⟩ = false := fro_blk T2.out.g4 4
    have z5 : w2.frozen? ⟨w.heap.size + 1 + 1, 5, none⟩ = false := fro_blk T2.out.g4 5
    go_wp2_with fail
    refine bodyPost_ret (ret_cell_tmp rfl _ _ (w.heap.size + 1 + 1) 26 #[.int .i64 0, .int .i64 0, .int .i64 0, .slice none 0 0, .slice none 0 0, .slice none 0 0] _ _ rfl (set6A T2.out.g4 _ _ _ _ _ _) Tryz.underlying26 rfl (by kernel_rfl)) rfl ?_
    exact ApOut.no (.form (fun h => by have := HR2.out.2 h.2; cases this)) (by decide) T2.out.below (by omega)
  | true =>
  have HDR := Lib.hid (HR2.out.1 (by simp))
  clear HR2
  have HPT := Lib.hid (right_parts.1 HMR.out)
  have HOD := Lib.hid (outdated_any (w := w2) (gen := gen) (cut := cut) (fen := fen) (cut' := cut') (fen' := fen') (y0 := y0) (y1 := y1) (y2 := y2) (ea := ea) (en := en) (ec := ec) (aa := aa) (an := an) (ac := ac) (da := da) (dn := dn) (dc := dc) (HM.out.kept T2.out.below) (HO.out.kept T2.out.below) (HK.out.kept T2.out.below))
  obtain ⟨oe, hoe⟩ : ∃ oe, oe = outE os ms km y0 y1 y2 := ⟨_, rfl⟩
  rw [← hoe] at HOD
  have a0 : w2.cell? ⟨w.heap.size, 0, none⟩ = some (.int .i64 gen) := cell_blk T2.out.g2 rfl
  have a1 : w2.cell? ⟨w.heap.size, 1, none⟩ = some (.int .i64 cut) := cell_blk T2.out.g2 rfl
  have a2 : w2.cell? ⟨w.heap.size, 2, none⟩ = some (.int .i64 fen) := cell_blk T2.out.g2 rfl
  have a3 : w2.cell? ⟨w.heap.size, 3, none⟩ = some (.slice ea en ec) := cell_blk T2.out.g2 rfl
  have a4 : w2.cell? ⟨w.heap.size, 4, none⟩ = some (.slice ma mn mc) := cell_blk T2.out.g2 rfl
  have a5 : w2.cell? ⟨w.heap.size, 5, none⟩ = some (.slice oa on oc) := cell_blk T2.out.g2 rfl
  have e0 : w2.cell? ⟨w.heap.size + 1, 0, none⟩ = some (.slice aa an ac) := cell_blk T2.out.g3 rfl
  have e1 : w2.cell? ⟨w.heap.size + 1, 1, none⟩ = some (.slice da dn dc) := cell_blk T2.out.g3 rfl
  have e2 : w2.cell? ⟨w.heap.size + 1, 2, none⟩ = some (.slice ka kn kc) := cell_blk T2.out.g3 rfl
  have e3 : w2.cell? ⟨w.heap.size + 1, 3, none⟩ = some (.int .i64 cut') := cell_blk T2.out.g3 rfl
  have e4 : w2.cell? ⟨w.heap.size + 1, 4, none⟩ = some (.int .i64 fen') := cell_blk T2.out.g3 rfl
  have e5 : w2.cell? ⟨w.heap.size + 1, 5, none⟩ = some (.int .i64 y0) := cell_blk T2.out.g3 rfl
  have e6 : w2.cell? ⟨w.heap.size + 1, 6, none⟩ = some (.int .i64 y1) := cell_blk T2.out.g3 rfl
  have e7 : w2.cell? ⟨w.heap.size + 1, 7, none⟩ = some (.int .i64 y2) := cell_blk T2.out.g3 rfl
  go_wp2_with fail
  refine HOD.out.mono ?_
  rintro e w3 ⟨rfl, hb3⟩
  have T3w := Lib.hid (T2.out.step hb3)
  clear hb3 a0 a1 a2 a3 a4 a5 e0 e1 e2 e3 e4 e5 e6 e7
  have hvi := ver_iff (m := (⟨gen, cut, fen, es, ms, os⟩ : MaV)) (d := (⟨ad, dr, km, cut', fen', (y0, y1, y2)⟩ : EdV)) rfl HPT.out.riseO
  have hdi := dup_iff (m := (⟨gen, cut, fen, es, ms, os⟩ : MaV)) (d := (⟨ad, dr, km, cut', fen', (y0, y1, y2)⟩ : EdV))
  unfold outE at hoe
  cases hvb : verB os y0 y1 y2 with
  | true =>
    rw [hvb, if_pos rfl] at hoe
    subst hoe
    have HV := Lib.hid (hvi.1 hvb)
    clear hvi hdi hvb
    have m0 : w3.cell? ⟨w.heap.size + 1 + 1, 0, none⟩ = some (.int .i64 0) := cell_blk T3w.out.g4 rfl
    have m1 : w3.cell? ⟨w.heap.size + 1 + 1, 1, none⟩ = some (.int .i64 0) := cell_blk T3w.out.g4 rfl
    have m2 : w3.cell? ⟨w.heap.size + 1 + 1, 2, none⟩ = some (.int .i64 0) := cell_blk T3w.out.g4 rfl
    have m3 : w3.cell? ⟨w.heap.size + 1 + 1, 3, none⟩ = some (.slice none 0 0) := cell_blk T3w.out.g4 rfl
    have m4 : w3.cell? ⟨w.heap.size + 1 + 1, 4, none⟩ = some (.slice none 0 0) := cell_blk T3w.out.g4 rfl
    have m5 : w3.cell? ⟨w.heap.size + 1 + 1, 5, none⟩ = some (.slice none 0 0) := cell_blk T3w.out.g4 rfl
    have z0 : w3.frozen? ⟨w.heap.size + 1 + 1, 0, none⟩ = false := fro_blk T3w.out.g4 0
    have z1 : w3.frozen? ⟨w.heap.size + 1 + 1, 1, none⟩ = false := fro_blk T3w.out.g4 1
    have z2 : w3.frozen? ⟨w.heap.size + 1 + 1, 2, none⟩ = false := fro_blk T3w.out.g4 2
    have z3 : w3.frozen? ⟨w.heap.size + 1 + 1, 3, none⟩ = false := fro_blk T3w.out.g4 3
    have z4 : w3.frozen? ⟨w.heap.size + 1 + 1, 4, none⟩ = false := fro_blk T3w.out.g4 4
    have z5 : w3.frozen? ⟨w.heap.size + 1 + 1, 5, none⟩ = false := fro_blk T3w.out.g4 5
    go_wp2_with fail
    refine bodyPost_ret (ret_cell_tmp rfl _ _ (w.heap.size + 1 + 1) 26 #[.int .i64 0, .int .i64 0, .int .i64 0, .slice none 0 0, .slice none 0 0, .slice none 0 0] _ _ rfl (set6A T3w.out.g4 _ _ _ _ _ _) Tryz.underlying26 rfl (by kernel_rfl)) rfl ?_
    exact ApOut.no (.ver HMR.out HDR.out HV.out) (by decide) T3w.out.below (by omega)
  | false =>
  rw [hvb, if_neg (by decide)] at hoe
  have HV := Lib.hid (not_iff' hvi hvb)
  clear hvi hvb
  cases hdb : dupB ms km with
  | true =>
    rw [hdb, if_pos rfl] at hoe
    subst hoe
    have HU := Lib.hid (hdi.1 hdb)
    clear hdi hdb
    have m0 : w3.cell? ⟨w.heap.size + 1 + 1, 0, none⟩ = some (.int .i64 0) := cell_blk T3w.out.g4 rfl
    have m1 : w3.cell? ⟨w.heap.size + 1 + 1, 1, none⟩ = some (.int .i64 0) := cell_blk T3w.out.g4 rfl
    have m2 : w3.cell? ⟨w.heap.size + 1 + 1, 2, none⟩ = some (.int .i64 0) := cell_blk T3w.out.g4 rfl
    have m3 : w3.cell? ⟨w.heap.size + 1 + 1, 3, none⟩ = some (.slice none 0 0) := cell_blk T3w.out.g4 rfl
    have m4 : w3.cell? ⟨w.heap.size + 1 + 1, 4, none⟩ = some (.slice none 0 0) := cell_blk T3w.out.g4 rfl
    have m5 : w3.cell? ⟨w.heap.size + 1 + 1, 5, none⟩ = some (.slice none 0 0) := cell_blk T3w.out.g4 rfl
    have z0 : w3.frozen? ⟨w.heap.size + 1 + 1, 0, none⟩ = false := fro_blk T3w.out.g4 0
    have z1 : w3.frozen? ⟨w.heap.size + 1 + 1, 1, none⟩ = false := fro_blk T3w.out.g4 1
    have z2 : w3.frozen? ⟨w.heap.size + 1 + 1, 2, none⟩ = false := fro_blk T3w.out.g4 2
    have z3 : w3.frozen? ⟨w.heap.size + 1 + 1, 3, none⟩ = false := fro_blk T3w.out.g4 3
    have z4 : w3.frozen? ⟨w.heap.size + 1 + 1, 4, none⟩ = false := fro_blk T3w.out.g4 4
    have z5 : w3.frozen? ⟨w.heap.size + 1 + 1, 5, none⟩ = false := fro_blk T3w.out.g4 5
    go_wp2_with fail
    refine bodyPost_ret (ret_cell_tmp rfl _ _ (w.heap.size + 1 + 1) 26 #[.int .i64 0, .int .i64 0, .int .i64 0, .slice none 0 0, .slice none 0 0, .slice none 0 0] _ _ rfl (set6A T3w.out.g4 _ _ _ _ _ _) Tryz.underlying26 rfl (by kernel_rfl)) rfl ?_
    exact ApOut.no (.dup HMR.out HDR.out HV.out HU.out) (by decide) T3w.out.below (by omega)
  | false =>
  rw [hdb, if_neg (by decide)] at hoe
  have HU := Lib.hid (not_iff' hdi hdb)
  subst hoe
  clear hdi hdb
  have HREM := Lib.hid (remaining_any (w := w3) (gen := gen) (cut := cut) (fen := fen) (cut' := cut') (fen' := fen') (y0 := y0) (y1 := y1) (y2 := y2) (ma := ma) (mn := mn) (mc := mc) (oa := oa) (on := on) (oc := oc) (ka := ka) (kn := kn) (kc := kc) (HE.out.kept T3w.out.below) (HD.out.kept T3w.out.below) (HA.out.kept T3w.out.below) HPT.out.riseE HDR.out.two (by have := HPT.out.few; have := HE.out.len; simp only at *; omega))
  have a0 : w3.cell? ⟨w.heap.size, 0, none⟩ = some (.int .i64 gen) := cell_blk T3w.out.g2 rfl
  have a1 : w3.cell? ⟨w.heap.size, 1, none⟩ = some (.int .i64 cut) := cell_blk T3w.out.g2 rfl
  have a2 : w3.cell? ⟨w.heap.size, 2, none⟩ = some (.int .i64 fen) := cell_blk T3w.out.g2 rfl
  have a3 : w3.cell? ⟨w.heap.size, 3, none⟩ = some (.slice ea en ec) := cell_blk T3w.out.g2 rfl
  have a4 : w3.cell? ⟨w.heap.size, 4, none⟩ = some (.slice ma mn mc) := cell_blk T3w.out.g2 rfl
  have a5 : w3.cell? ⟨w.heap.size, 5, none⟩ = some (.slice oa on oc) := cell_blk T3w.out.g2 rfl
  have e0 : w3.cell? ⟨w.heap.size + 1, 0, none⟩ = some (.slice aa an ac) := cell_blk T3w.out.g3 rfl
  have e1 : w3.cell? ⟨w.heap.size + 1, 1, none⟩ = some (.slice da dn dc) := cell_blk T3w.out.g3 rfl
  have e2 : w3.cell? ⟨w.heap.size + 1, 2, none⟩ = some (.slice ka kn kc) := cell_blk T3w.out.g3 rfl
  have e3 : w3.cell? ⟨w.heap.size + 1, 3, none⟩ = some (.int .i64 cut') := cell_blk T3w.out.g3 rfl
  have e4 : w3.cell? ⟨w.heap.size + 1, 4, none⟩ = some (.int .i64 fen') := cell_blk T3w.out.g3 rfl
  have e5 : w3.cell? ⟨w.heap.size + 1, 5, none⟩ = some (.int .i64 y0) := cell_blk T3w.out.g3 rfl
  have e6 : w3.cell? ⟨w.heap.size + 1, 6, none⟩ = some (.int .i64 y1) := cell_blk T3w.out.g3 rfl
  have e7 : w3.cell? ⟨w.heap.size + 1, 7, none⟩ = some (.int .i64 y2) := cell_blk T3w.out.g3 rfl
  go_wp2_with fail
  refine HREM.out.mono ?_
  rintro e w4 ⟨hri, hb4⟩
  have T4 := Lib.hid (T3w.out.step hb4)
  have HL3 := Lib.hid T3w.out.lt
  clear hb4 a0 a1 a2 a3 a4 a5 e0 e1 e2 e3 e4 e5 e6 e7
  have hli := lost_iff (m := (⟨gen, cut, fen, es, ms, os⟩ : MaV)) (d := (⟨ad, dr, km, cut', fen', (y0, y1, y2)⟩ : EdV))
  have hfi := fence_iff (m := (⟨gen, cut, fen, es, ms, os⟩ : MaV)) (d := (⟨ad, dr, km, cut', fen', (y0, y1, y2)⟩ : EdV))
  have hxi := exist_iff (m := (⟨gen, cut, fen, es, ms, os⟩ : MaV)) (d := (⟨ad, dr, km, cut', fen', (y0, y1, y2)⟩ : EdV))
  unfold RemIs remE at hri
  cases h9 : lostB es dr with
  | true =>
    rw [h9, if_pos rfl] at hri
    have HLL := Lib.hid (hli.1 h9)
    obtain ⟨_, rfl⟩ : (17 : Int) ≠ 0 ∧ e = .returned (.tuple #[.map none, .int .i64 17]) := by
      rcases hri with h | h
      · exact h
      · exact absurd h.1 (by decide)
    clear hri hli hfi hxi h9
    have m0 : w4.cell? ⟨w.heap.size + 1 + 1, 0, none⟩ = some (.int .i64 0) := cell_blk T4.out.g4 rfl
    have m1 : w4.cell? ⟨w.heap.size + 1 + 1, 1, none⟩ = some (.int .i64 0) := cell_blk T4.out.g4 rfl
    have m2 : w4.cell? ⟨w.heap.size + 1 + 1, 2, none⟩ = some (.int .i64 0) := cell_blk T4.out.g4 rfl
    have m3 : w4.cell? ⟨w.heap.size + 1 + 1, 3, none⟩ = some (.slice none 0 0) := cell_blk T4.out.g4 rfl
    have m4 : w4.cell? ⟨w.heap.size + 1 + 1, 4, none⟩ = some (.slice none 0 0) := cell_blk T4.out.g4 rfl
    have m5 : w4.cell? ⟨w.heap.size + 1 + 1, 5, none⟩ = some (.slice none 0 0) := cell_blk T4.out.g4 rfl
    have z0 : w4.frozen? ⟨w.heap.size + 1 + 1, 0, none⟩ = false := fro_blk T4.out.g4 0
    have z1 : w4.frozen? ⟨w.heap.size + 1 + 1, 1, none⟩ = false := fro_blk T4.out.g4 1
    have z2 : w4.frozen? ⟨w.heap.size + 1 + 1, 2, none⟩ = false := fro_blk T4.out.g4 2
    have z3 : w4.frozen? ⟨w.heap.size + 1 + 1, 3, none⟩ = false := fro_blk T4.out.g4 3
    have z4 : w4.frozen? ⟨w.heap.size + 1 + 1, 4, none⟩ = false := fro_blk T4.out.g4 4
    have z5 : w4.frozen? ⟨w.heap.size + 1 + 1, 5, none⟩ = false := fro_blk T4.out.g4 5
    go_wp2_with fail
    refine bodyPost_ret (ret_cell_tmp rfl _ _ (w.heap.size + 1 + 1) 26 #[.int .i64 0, .int .i64 0, .int .i64 0, .slice none 0 0, .slice none 0 0, .slice none 0 0] _ _ rfl (set6A T4.out.g4 _ _ _ _ _ _) Tryz.underlying26 rfl (by kernel_rfl)) rfl ?_
    exact ApOut.no (.lost HMR.out HDR.out HV.out HU.out HLL.out) (by decide) T4.out.below (by omega)
  | false =>
  rw [h9, if_neg (by decide)] at hri
  have HLL := Lib.hid (not_iff' hli h9)
  clear h9
  cases h9 : fenceB ad fen fen' with
  | true =>
    rw [h9, if_pos rfl] at hri
    have HFF := Lib.hid (hfi.1 h9)
    obtain ⟨_, rfl⟩ : (11 : Int) ≠ 0 ∧ e = .returned (.tuple #[.map none, .int .i64 11]) := by
      rcases hri with h | h
      · exact h
      · exact absurd h.1 (by decide)
    clear hri hli hfi hxi h9
    have m0 : w4.cell? ⟨w.heap.size + 1 + 1, 0, none⟩ = some (.int .i64 0) := cell_blk T4.out.g4 rfl
    have m1 : w4.cell? ⟨w.heap.size + 1 + 1, 1, none⟩ = some (.int .i64 0) := cell_blk T4.out.g4 rfl
    have m2 : w4.cell? ⟨w.heap.size + 1 + 1, 2, none⟩ = some (.int .i64 0) := cell_blk T4.out.g4 rfl
    have m3 : w4.cell? ⟨w.heap.size + 1 + 1, 3, none⟩ = some (.slice none 0 0) := cell_blk T4.out.g4 rfl
    have m4 : w4.cell? ⟨w.heap.size + 1 + 1, 4, none⟩ = some (.slice none 0 0) := cell_blk T4.out.g4 rfl
    have m5 : w4.cell? ⟨w.heap.size + 1 + 1, 5, none⟩ = some (.slice none 0 0) := cell_blk T4.out.g4 rfl
    have z0 : w4.frozen? ⟨w.heap.size + 1 + 1, 0, none⟩ = false := fro_blk T4.out.g4 0
    have z1 : w4.frozen? ⟨w.heap.size + 1 + 1, 1, none⟩ = false := fro_blk T4.out.g4 1
    have z2 : w4.frozen? ⟨w.heap.size + 1 + 1, 2, none⟩ = false := fro_blk T4.out.g4 2
    have z3 : w4.frozen? ⟨w.heap.size + 1 + 1, 3, none⟩ = false := fro_blk T4.out.g4 3
    have z4 : w4.frozen? ⟨w.heap.size + 1 + 1, 4, none⟩ = false := fro_blk T4.out.g4 4
    have z5 : w4.frozen? ⟨w.heap.size + 1 + 1, 5, none⟩ = false := fro_blk T4.out.g4 5
    go_wp2_with fail
    refine bodyPost_ret (ret_cell_tmp rfl _ _ (w.heap.size + 1 + 1) 26 #[.int .i64 0, .int .i64 0, .int .i64 0, .slice none 0 0, .slice none 0 0, .slice none 0 0] _ _ rfl (set6A T4.out.g4 _ _ _ _ _ _) Tryz.underlying26 rfl (by kernel_rfl)) rfl ?_
    exact ApOut.no (.fence HMR.out HDR.out HV.out HU.out HLL.out HFF.out) (by decide) T4.out.below (by omega)
  | false =>
  rw [h9, if_neg (by decide)] at hri
  have HFF := Lib.hid (not_iff' hfi h9)
  clear h9
  cases h9 : existB es dr ad with
  | true =>
    rw [h9, if_pos rfl] at hri
    have HXX := Lib.hid (hxi.1 h9)
    obtain ⟨_, rfl⟩ : (18 : Int) ≠ 0 ∧ e = .returned (.tuple #[.map none, .int .i64 18]) := by
      rcases hri with h | h
      · exact h
      · exact absurd h.1 (by decide)
    clear hri hli hfi hxi h9
    have m0 : w4.cell? ⟨w.heap.size + 1 + 1, 0, none⟩ = some (.int .i64 0) := cell_blk T4.out.g4 rfl
    have m1 : w4.cell? ⟨w.heap.size + 1 + 1, 1, none⟩ = some (.int .i64 0) := cell_blk T4.out.g4 rfl
    have m2 : w4.cell? ⟨w.heap.size + 1 + 1, 2, none⟩ = some (.int .i64 0) := cell_blk T4.out.g4 rfl
    have m3 : w4.cell? ⟨w.heap.size + 1 + 1, 3, none⟩ = some (.slice none 0 0) := cell_blk T4.out.g4 rfl
    have m4 : w4.cell? ⟨w.heap.size + 1 + 1, 4, none⟩ = some (.slice none 0 0) := cell_blk T4.out.g4 rfl
    have m5 : w4.cell? ⟨w.heap.size + 1 + 1, 5, none⟩ = some (.slice none 0 0) := cell_blk T4.out.g4 rfl
    have z0 : w4.frozen? ⟨w.heap.size + 1 + 1, 0, none⟩ = false := fro_blk T4.out.g4 0
    have z1 : w4.frozen? ⟨w.heap.size + 1 + 1, 1, none⟩ = false := fro_blk T4.out.g4 1
    have z2 : w4.frozen? ⟨w.heap.size + 1 + 1, 2, none⟩ = false := fro_blk T4.out.g4 2
    have z3 : w4.frozen? ⟨w.heap.size + 1 + 1, 3, none⟩ = false := fro_blk T4.out.g4 3
    have z4 : w4.frozen? ⟨w.heap.size + 1 + 1, 4, none⟩ = false := fro_blk T4.out.g4 4
    have z5 : w4.frozen? ⟨w.heap.size + 1 + 1, 5, none⟩ = false := fro_blk T4.out.g4 5
    go_wp2_with fail
    refine bodyPost_ret (ret_cell_tmp rfl _ _ (w.heap.size + 1 + 1) 26 #[.int .i64 0, .int .i64 0, .int .i64 0, .slice none 0 0, .slice none 0 0, .slice none 0 0] _ _ rfl (set6A T4.out.g4 _ _ _ _ _ _) Tryz.underlying26 rfl (by kernel_rfl)) rfl ?_
    exact ApOut.no (.exist HMR.out HDR.out HV.out HU.out HLL.out HFF.out HXX.out) (by decide) T4.out.below (by omega)
  | false =>
  rw [h9, if_neg (by decide)] at hri
  have HXX := Lib.hid (not_iff' hxi h9)
  have HXB := Lib.hid h9
  clear h9
  obtain ⟨_, Mb, hMb, rfl, hEM⟩ : (0 : Int) = 0 ∧ ∃ M, w3.heap.size ≤ M ∧ e = .returned (.tuple #[.map (some M), .int .i64 0]) ∧ EM w4 M (lessK dr (mapE es)) := by
    rcases hri with h | h
    · exact absurd rfl h.1
    · exact h
  have HEM := Lib.hid hEM
  have HMB := Lib.hid (show w.heap.size + 1 + 1 < Mb from Nat.lt_of_lt_of_le HL3.out hMb)
  have HML := Lib.hid hEM.gm.lt
  clear hri hli hfi hxi hMb hEM
  have a0 : w4.cell? ⟨w.heap.size, 0, none⟩ = some (.int .i64 gen) := cell_blk T4.out.g2 rfl
  have a1 : w4.cell? ⟨w.heap.size, 1, none⟩ = some (.int .i64 cut) := cell_blk T4.out.g2 rfl
  have a2 : w4.cell? ⟨w.heap.size, 2, none⟩ = some (.int .i64 fen) := cell_blk T4.out.g2 rfl
  have a3 : w4.cell? ⟨w.heap.size, 3, none⟩ = some (.slice ea en ec) := cell_blk T4.out.g2 rfl
  have a4 : w4.cell? ⟨w.heap.size, 4, none⟩ = some (.slice ma mn mc) := cell_blk T4.out.g2 rfl
  have a5 : w4.cell? ⟨w.heap.size, 5, none⟩ = some (.slice oa on oc) := cell_blk T4.out.g2 rfl
  have e0 : w4.cell? ⟨w.heap.size + 1, 0, none⟩ = some (.slice aa an ac) := cell_blk T4.out.g3 rfl
  have e1 : w4.cell? ⟨w.heap.size + 1, 1, none⟩ = some (.slice da dn dc) := cell_blk T4.out.g3 rfl
  have e2 : w4.cell? ⟨w.heap.size + 1, 2, none⟩ = some (.slice ka kn kc) := cell_blk T4.out.g3 rfl
  have e3 : w4.cell? ⟨w.heap.size + 1, 3, none⟩ = some (.int .i64 cut') := cell_blk T4.out.g3 rfl
  have e4 : w4.cell? ⟨w.heap.size + 1, 4, none⟩ = some (.int .i64 fen') := cell_blk T4.out.g3 rfl
  have e5 : w4.cell? ⟨w.heap.size + 1, 5, none⟩ = some (.int .i64 y0) := cell_blk T4.out.g3 rfl
  have e6 : w4.cell? ⟨w.heap.size + 1, 6, none⟩ = some (.int .i64 y1) := cell_blk T4.out.g3 rfl
  have e7 : w4.cell? ⟨w.heap.size + 1, 7, none⟩ = some (.int .i64 y2) := cell_blk T4.out.g3 rfl
  by_cases hgen : gen = 1099511627775
  · subst hgen
    have m0 : w4.cell? ⟨w.heap.size + 1 + 1, 0, none⟩ = some (.int .i64 0) := cell_blk T4.out.g4 rfl
    have m1 : w4.cell? ⟨w.heap.size + 1 + 1, 1, none⟩ = some (.int .i64 0) := cell_blk T4.out.g4 rfl
    have m2 : w4.cell? ⟨w.heap.size + 1 + 1, 2, none⟩ = some (.int .i64 0) := cell_blk T4.out.g4 rfl
    have m3 : w4.cell? ⟨w.heap.size + 1 + 1, 3, none⟩ = some (.slice none 0 0) := cell_blk T4.out.g4 rfl
    have m4 : w4.cell? ⟨w.heap.size + 1 + 1, 4, none⟩ = some (.slice none 0 0) := cell_blk T4.out.g4 rfl
    have m5 : w4.cell? ⟨w.heap.size + 1 + 1, 5, none⟩ = some (.slice none 0 0) := cell_blk T4.out.g4 rfl
    have z0 : w4.frozen? ⟨w.heap.size + 1 + 1, 0, none⟩ = false := fro_blk T4.out.g4 0
    have z1 : w4.frozen? ⟨w.heap.size + 1 + 1, 1, none⟩ = false := fro_blk T4.out.g4 1
    have z2 : w4.frozen? ⟨w.heap.size + 1 + 1, 2, none⟩ = false := fro_blk T4.out.g4 2
    have z3 : w4.frozen? ⟨w.heap.size + 1 + 1, 3, none⟩ = false := fro_blk T4.out.g4 3
    have z4 : w4.frozen? ⟨w.heap.size + 1 + 1, 4, none⟩ = false := fro_blk T4.out.g4 4
    have z5 : w4.frozen? ⟨w.heap.size + 1 + 1, 5, none⟩ = false := fro_blk T4.out.g4 5
    go_wp2_with fail
    refine bodyPost_ret (ret_cell_tmp rfl _ _ (w.heap.size + 1 + 1) 26 #[.int .i64 0, .int .i64 0, .int .i64 0, .slice none 0 0, .slice none 0 0, .slice none 0 0] _ _ rfl (set6A T4.out.g4 _ _ _ _ _ _) Tryz.underlying26 rfl (by kernel_rfl)) rfl ?_
    exact ApOut.no (.range HMR.out HDR.out HV.out HU.out HLL.out HFF.out HXX.out rfl) (by decide) T4.out.below (by omega)
  have HGN := Lib.hid hgen
  have hgw := withinB_iff.1 HPT.out.gen
  simp only at hgw
  have hg1 : (gen == 1099511627775) = false := beq_eq_false_iff_ne.2 hgen
  have hgw2 : IntKind.i64.wrap (gen + 1) = gen + 1 := IntWalk.i64_in _ (by omega)
  clear hgen hgw
  obtain ⟨cut2, hcut2⟩ : ∃ z, z = max cut cut' := ⟨_, rfl⟩
  obtain ⟨fen2, hfen2⟩ : ∃ z, z = max fen fen' := ⟨_, rfl⟩
  obtain ⟨w5, hw5⟩ : ∃ w5, w5 = w4.alloc (.cells #[.int .i64 (gen + 1), .int .i64 cut2, .int .i64 fen2, .slice none 0 0, .slice none 0 0, .slice none 0 0] 26) := ⟨_, rfl⟩
  obtain ⟨nb, hnb⟩ : ∃ nb, nb = w4.heap.size := ⟨_, rfl⟩
  have hb5 : Below w4.heap.size w4 w5 := by rw [hw5]; exact (Below.refl _ _).alloc (Nat.le_refl _) _
  have N5 := Lib.hid (show w5.heap[nb]? = some (.cells #[.int .i64 (gen + 1), .int .i64 cut2, .int .i64 fen2, .slice none 0 0, .slice none 0 0, .slice none 0 0] 26 (0, 0)) from by rw [hw5, hnb]; exact heap_alloc_new _ _)
  have T5 := Lib.hid (T4.out.step hb5)
  have HE5 := Lib.hid (show EM w5 Mb (lessK dr (mapE es)) from GM.below HEM.out hb5)
  have HNM := Lib.hid (show Mb < nb from by rw [hnb]; exact HML.out)
  have HNL := Lib.hid (show w.heap.size + 1 + 1 < nb from by have := HMB.out; have := HNM.out; omega)
  have HW5 := Lib.hid hw5
  have HNB := Lib.hid hnb
  have HC2 := Lib.hid hcut2
  have HF2 := Lib.hid hfen2
  clear hb5 hw5 hnb hcut2 hfen2
  go_upto_region 12 with fail
  rw [← HC2.out, ← HF2.out, ← HW5.out, ← HNB.out]
  clear a0 a1 a2 a3 a4 a5 e0 e1 e2 e3 e4 e5 e6 e7
  have f0 : w5.cell? ⟨w.heap.size + 1, 0, none⟩ = some (.slice aa an ac) := cell_blk T5.out.g3 rfl
  clear hgw2 hg1
  go_wp2_with fail
  go_loopw [61] (fun s61 wr => ∃ k : Nat, k ≤ an ∧ s61 = .int .i64 (k : Int) ∧ Hid (EM wr Mb (addK (ad.take k) (lessK dr (mapE es)))) ∧ Hid (Frm (· = Mb) w5 wr)) (fun s61 _ => an - (intOf s61).toNat)
  case atStart => exact ⟨0, by omega, rfl, HE5, Lib.hid (Frm.refl _ _)⟩
  case round =>
    clear f0
    obtain ⟨k, hk, rfl, HEM, HFR⟩ := hrel
    rename World => wr
    have TR := Lib.hid (T5.out.frm HFR.out (fun i hi => by have := HMB.out; have hi2 : i = Mb := hi; omega))
    by_cases hkn : k < an
    · have hki : (k : Int) < (an : Int) := by omega
      obtain ⟨sb, so, rfl, hsl, hok, hsc9⟩ := (HA.out.kept TR.out.below).get hkn
      obtain ⟨s, hse⟩ : ∃ s, s = ad.getD k EntS.z := ⟨_, rfl⟩
      rw [← hse] at hsc9 hok
      have HTK := Lib.hid (show putK slit s.key s (addK (ad.take k) (lessK dr (mapE es))) = addK (ad.take (k + 1)) (lessK dr (mapE es)) from by rw [take_snoc ad EntS.z (by rw [HA.out.len]; exact hkn), addK_snoc, ← hse])
      have HLK := Lib.hid (show (addK (ad.take k) (lessK dr (mapE es))).length ≤ 1000000 from by
        have g1 := addK_len (ad.take k) (lessK dr (mapE es))
        have g2 := lessK_len dr (mapE es)
        have g3 := mapE_len es
        have g4 := HPT.out.few
        have g5 : (ad.take k).length ≤ ad.length := by rw [List.length_take]; omega
        have g6 := HA.out.len
        have g7 := HAN.out
        simp only at g4
        omega)
      clear hse
      obtain ⟨x0, x1, x2, x3, x4, x5, x6, x7, x8⟩ := s
      have hz0 : x0.size ≤ 1000000000000000 := by have := hok.1; simp only at this; omega
      have d0 : wr.cell? ⟨sb, so + k * 9, none⟩ = some (.string x0) := hsc9 0 _ rfl
      have d1 : wr.cell? ⟨sb, so + k * 9 + 1, none⟩ = some (.int .i64 x1) := hsc9 1 _ rfl
      have d2 : wr.cell? ⟨sb, so + k * 9 + 2, none⟩ = some (.string x2) := hsc9 2 _ rfl
      have d3 : wr.cell? ⟨sb, so + k * 9 + 3, none⟩ = some (.int .i64 x3) := hsc9 3 _ rfl
      have d4 : wr.cell? ⟨sb, so + k * 9 + 4, none⟩ = some (.int .i64 x4) := hsc9 4 _ rfl
      have d5 : wr.cell? ⟨sb, so + k * 9 + 5, none⟩ = some (.int .i64 x5) := hsc9 5 _ rfl
      have d6 : wr.cell? ⟨sb, so + k * 9 + 6, none⟩ = some (.int .i64 x6) := hsc9 6 _ rfl
      have d7 : wr.cell? ⟨sb, so + k * 9 + 7, none⟩ = some (.int .u32 x7) := hsc9 7 _ rfl
      have d8 : wr.cell? ⟨sb, so + k * 9 + 8, none⟩ = some (.int .i64 x8) := hsc9 8 _ rfl
      obtain ⟨wx, hwx⟩ : ∃ wx, wx = wr.alloc (.cells #[.string x0, .int .i64 x1, .string x2, .int .i64 x3, .int .i64 x4, .int .i64 x5, .int .i64 x6, .int .u32 x7, .int .i64 x8] 42) := ⟨_, rfl⟩
      obtain ⟨bx, hbx⟩ : ∃ bx, bx = wr.heap.size := ⟨_, rfl⟩
      have hb4 : Below wr.heap.size wr wx := by rw [hwx]; exact (Below.refl _ _).alloc (Nat.le_refl _) _
      have hx4 : wx.heap[bx]? = some (.cells #[.string x0, .int .i64 x1, .string x2, .int .i64 x3, .int .i64 x4, .int .i64 x5, .int .i64 x6, .int .u32 x7, .int .i64 x8] 42 (0, 0)) := by rw [hwx, hbx]; exact heap_alloc_new wr _
      obtain ⟨wy, hst, hey, hty⟩ := storeE (GM.below HEM.out hb4) x0 hz0 ⟨x0, x1, x2, x3, x4, x5, x6, x7, x8⟩ HLK.out
      have HEY := Lib.hid (show EM wy Mb (addK (ad.take (k + 1)) (lessK dr (mapE es))) from by rw [← HTK.out]; exact hey)
      have HFY := Lib.hid (show Frm (· = Mb) w5 wy from (HFR.out.below hb4).turned (.inl rfl) hty)
      have HWX := Lib.hid hwx
      have HBX := Lib.hid hbx
      clear hsc9 hok hey hty hwx hbx hb4 hz0
      go_upto_region 15 with fail
      rw [← HWX.out, ← HBX.out]
      have e0 := cell_blk hx4 (i := 0) (u := .string x0) rfl
      have e1 := cell_blk hx4 (i := 1) (u := .int .i64 x1) rfl
      have e2 := cell_blk hx4 (i := 2) (u := .string x2) rfl
      have e3 := cell_blk hx4 (i := 3) (u := .int .i64 x3) rfl
      have e4 := cell_blk hx4 (i := 4) (u := .int .i64 x4) rfl
      have e5 := cell_blk hx4 (i := 5) (u := .int .i64 x5) rfl
      have e6 := cell_blk hx4 (i := 6) (u := .int .i64 x6) rfl
      have e7 := cell_blk hx4 (i := 7) (u := .int .u32 x7) rfl
      have e8 := cell_blk hx4 (i := 8) (u := .int .i64 x8) rfl
      go_wp2_with fail
      go_roundw
      case rel => exact ⟨k + 1, by omega, by go_num, HEY, HFY⟩
      case measure => simp [intOf]; omega
    · obtain rfl : an = k := by omega
      have HEA := Lib.hid (show EM wr Mb (addK ad (lessK dr (mapE es))) from by have h9 := HEM.out; rwa [take_len HA.out.len (Nat.le_refl _)] at h9)
      clear HEM
      have NR := Lib.hid (HFR.out.at N5.out (fun g => by have := HNM.out; have g2 : nb = Mb := g; omega))
      have HKS := Lib.hid (show ∀ q ∈ addK ad (lessK dr (mapE es)), q.1.size ≤ 1000000000000000 from fun q hq => by
        rcases (addK_mem HDR.out.one).1 hq with ⟨x, hx, rfl⟩ | ⟨hq, _⟩
        · have := (HA.out.all x hx).1
          simp only; omega
        · obtain ⟨x, hx, rfl⟩ := List.mem_map.1 (List.mem_filter.1 hq).1
          have := (HE.out.all x hx).1
          simp only; omega)
      have HDF := Lib.hid (delfunc_any (nb := nb) (cut := cut2) HEA.out HKS.out (Array.getElem?_eq_some_iff.1 NR.out).1 (by have := HNM.out; omega) (cell_blk NR.out rfl))
      go_wp2_with fail
      refine HDF.out.mono ?_
      rintro e w6 ⟨rfl, hem6, hf6⟩
      have HE6 := Lib.hid (show EM w6 Mb (endK es dr ad cut2) from hem6)
      have T6 := Lib.hid (TR.out.frm hf6 (fun i hi => by have := HMB.out; have hi2 : i = Mb := hi; omega))
      have N6 := Lib.hid (hf6.at NR.out (fun g => by have := HNM.out; have g2 : nb = Mb := g; omega))
      have HAP := Lib.hid (show (endK es dr ad cut2).Pairwise (fun q r => slit q.1 ≠ slit r.1) from HE6.out.gm.apart)
      have HKE := Lib.hid (show ∀ q ∈ endK es dr ad cut2, q.1.size ≤ 1000000000000000 from fun q hq => HKS.out q (List.mem_filter.1 hq).1)
      have HXK := Lib.hid (fun (zs : List EntV) (K : List (ByteArray × EntV)) (hK : K.Perm (endK es dr ad cut2)) (hz : zs.Perm (K.map (·.2))) (hs : SrtE zs) => (ents_ok (m := (⟨gen, cut, fen, es, ms, os⟩ : MaV)) (d := (⟨ad, dr, km, cut', fen', (y0, y1, y2)⟩ : EdV)) HDR.out.one HXB.out (by rw [← HC2.out]; exact hK) (by rw [← HC2.out]; exact HAP.out) hz hs : EntsOk (⟨gen, cut, fen, es, ms, os⟩ : MaV) (⟨ad, dr, km, cut', fen', (y0, y1, y2)⟩ : EdV) zs))
      obtain ⟨ln, hln⟩ : ∃ ln, ln = (endK es dr ad cut2).length := ⟨_, rfl⟩
      have HLN := Lib.hid hln
      have hlen : ∀ ty, (Builtin.len_ #[54] ty #[.map (some Mb)]).run Tryz.prog w6 = .ok (.int .i64 (ln : Int)) w6 := fun ty => by rw [HLN.out]; exact GM.len HE6.out.gm ty
      clear hln hem6 hf6 HEA HKS HDF HFR TR NR hk hkn
      by_cases hl : (ln : Int) > 256
      · have hl2 : decide ((256 : Int) < (ln : Int)) = true := decide_eq_true hl
        obtain ⟨zl, hzp, hzs⟩ := srt_some ((endK es dr ad cut2).map (·.2))
        have HLL2 := Lib.hid (show ∃ l, EntsOk (⟨gen, cut, fen, es, ms, os⟩ : MaV) (⟨ad, dr, km, cut', fen', (y0, y1, y2)⟩ : EdV) l ∧ 256 < l.length from ⟨zl, HXK.out zl _ (List.Perm.refl _) hzp hzs, by rw [hzp.length_eq, List.length_map, ← HLN.out]; omega⟩)
        clear hzp hzs
        have m0 : w6.cell? ⟨w.heap.size + 1 + 1, 0, none⟩ = some (.int .i64 0) := cell_blk T6.out.g4 rfl
        have m1 : w6.cell? ⟨w.heap.size + 1 + 1, 1, none⟩ = some (.int .i64 0) := cell_blk T6.out.g4 rfl
        have m2 : w6.cell? ⟨w.heap.size + 1 + 1, 2, none⟩ = some (.int .i64 0) := cell_blk T6.out.g4 rfl
        have m3 : w6.cell? ⟨w.heap.size + 1 + 1, 3, none⟩ = some (.slice none 0 0) := cell_blk T6.out.g4 rfl
        have m4 : w6.cell? ⟨w.heap.size + 1 + 1, 4, none⟩ = some (.slice none 0 0) := cell_blk T6.out.g4 rfl
        have m5 : w6.cell? ⟨w.heap.size + 1 + 1, 5, none⟩ = some (.slice none 0 0) := cell_blk T6.out.g4 rfl
        have z0 : w6.frozen? ⟨w.heap.size + 1 + 1, 0, none⟩ = false := fro_blk T6.out.g4 0
        have z1 : w6.frozen? ⟨w.heap.size + 1 + 1, 1, none⟩ = false := fro_blk T6.out.g4 1
        have z2 : w6.frozen? ⟨w.heap.size + 1 + 1, 2, none⟩ = false := fro_blk T6.out.g4 2
        have z3 : w6.frozen? ⟨w.heap.size + 1 + 1, 3, none⟩ = false := fro_blk T6.out.g4 3
        have z4 : w6.frozen? ⟨w.heap.size + 1 + 1, 4, none⟩ = false := fro_blk T6.out.g4 4
        have z5 : w6.frozen? ⟨w.heap.size + 1 + 1, 5, none⟩ = false := fro_blk T6.out.g4 5
        go_wp2_with fail
        refine bodyPost_ret (ret_cell_tmp rfl _ _ (w.heap.size + 1 + 1) 26 #[.int .i64 0, .int .i64 0, .int .i64 0, .slice none 0 0, .slice none 0 0, .slice none 0 0] _ _ rfl (set6A T6.out.g4 _ _ _ _ _ _) Tryz.underlying26 rfl (by kernel_rfl)) rfl ?_
        exact ApOut.no (.long HMR.out HDR.out HV.out HU.out HLL.out HFF.out HXX.out HGN.out HLL2.out) (by decide) T6.out.below (by omega)
      have hl2 : decide ((256 : Int) < (ln : Int)) = false := decide_eq_false hl
      have HLE := Lib.hid (show ln ≤ 256 from by omega)
      have HMV := Lib.hid (mvalues_anyE (w := w6) Mb)
      obtain ⟨w7, hw7⟩ : ∃ w7, w7 = w6.alloc (.cells #[.map (some Mb)] 54) := ⟨_, rfl⟩
      have b7 : Below w6.heap.size w6 w7 := by rw [hw7]; exact (Below.refl _ _).alloc (Nat.le_refl _) _
      have g7 : w7.heap[w6.heap.size]? = some (.cells #[.map (some Mb)] 54 (0, 0)) := by rw [hw7]; exact heap_alloc_new _ _
      have eg7 : ∀ args w, (callFunc 59 args).run Tryz.prog w = .ok (.enter 59 args) w := enters_of Tryz.func59 (by kernel_rfl) rfl
      have HSO := Lib.hid (sortedE_any (w := w7) eg7 (S := fun ys => ∃ zs : List (ByteArray × EntV), zs.Perm (endK es dr ad cut2) ∧ ys = zs.map (·.2)) (N := (endK es dr ad cut2).length) (by have := HLE.out; have := HLN.out; omega) (fun ys h => by obtain ⟨zs, h1, rfl⟩ := h; rw [List.length_map, h1.length_eq]; have := HLE.out; have := HLN.out; omega) (fun m hm => seq_kp (mvals_seqE m hm w6.heap.size Mb _ w7 (Array.getElem?_eq_some_iff.1 g7).1 (cell_blk g7 rfl) (GM.below HE6.out b7) HKE.out) (fun A B h => h.2)))
      have T7 := Lib.hid (T6.out.step b7)
      have N7 := Lib.hid ((b7.block nb (Array.getElem?_eq_some_iff.1 N6.out).1).trans N6.out)
      have HW7 := Lib.hid hw7
      clear b7 g7 eg7 hw7
      go_wp2_with fail
      refine HMV.out.mono ?_
      rintro e wq ⟨rfl, hwq⟩
      rw [← HW7.out] at hwq
      obtain rfl : w7 = wq := hwq.symm
      clear hlen hl hl2 hwq
      go_wp2_with fail
      refine HSO.out.mono ?_
      rintro e w8 ⟨v8, ys, zs, hys, hzp, hzs, rfl, hown, hb8⟩
      obtain ⟨qa, qc, rfl⟩ := own_sl hown
      obtain ⟨zk, hk1, hk2⟩ := hys
      have HEO := Lib.hid (HXK.out zs zk hk1 (by rw [← hk2]; exact hzp) hzs)
      have hzl : zs.length = ln := by rw [hzp.length_eq, hk2, List.length_map, hk1.length_eq]; exact HLN.out.symm
      rw [hzl] at hown
      rw [hzl]
      have HZL := Lib.hid hzl
      have HOE := Lib.hid hown
      have T8 := Lib.hid (T7.out.step hb8)
      have hn8 := (hb8.block nb (Array.getElem?_eq_some_iff.1 N7.out).1).trans N7.out
      have N8 := Lib.hid hn8
      have HN7 := Lib.hid (Array.getElem?_eq_some_iff.1 N7.out).1
      obtain ⟨w9, hw9⟩ : ∃ w9, w9 = w8.setCell ⟨nb, 3, none⟩ (.slice qa ln qc) := ⟨_, rfl⟩
      have hf9 : Frm (· = nb) w8 w9 := by rw [hw9]; exact (Frm.refl (· = nb) w8).set (p := nb) (.inl rfl) 3 _
      have T9 := Lib.hid (T8.out.frm hf9 (fun i hi => by have := HNL.out; have hi2 : i = nb := hi; omega))
      have N9 := Lib.hid (show w9.heap[nb]? = some (.cells #[.int .i64 (gen + 1), .int .i64 cut2, .int .i64 fen2, .slice qa ln qc, .slice none 0 0, .slice none 0 0] 26 (0, 0)) from by rw [hw9]; exact heap_set hn8 3 _)
      have HO9 := Lib.hid (own_frm hown hf9 (fun b hb e => by have := HN7.out; have e2 : b = nb := e; omega))
      have HW9 := Lib.hid hw9
      have n3 : w8.cell? ⟨nb, 3, none⟩ = some (.slice none 0 0) := cell_blk hn8 rfl
      have f3 : w8.frozen? ⟨nb, 3, none⟩ = false := fro_blk hn8 3
      have HCL := Lib.hid (clone_anyM (HM.out.kept T9.out.below) (show mn ≤ 1000 from by
        have h1 := few_marks (r := []) (out := ms) HMR.out HDR.out (fun x hx => by cases hx) (marks_nil HPT.out.riseM)
        have h2 := HM.out.len
        omega))
      clear hzp hzs hk1 hk2 hown hb8 hn8 hf9 hw9 hzl
      go_upto_region 21 with fail
      rw [← HW9.out]
      clear n3 f3
      have a4 : w9.cell? ⟨w.heap.size, 4, none⟩ = some (.slice ma mn mc) := cell_blk T9.out.g2 rfl
      go_wp2_with fail
      refine HCL.out.mono ?_
      rintro e w10 ⟨v10, rfl, hown10, hb10⟩
      obtain ⟨ca, cc, rfl⟩ := own_sl hown10
      have T10 := Lib.hid (T9.out.step hb10)
      have hn10 := (hb10.block nb (Array.getElem?_eq_some_iff.1 N9.out).1).trans N9.out
      have HN9 := Lib.hid (Array.getElem?_eq_some_iff.1 N9.out).1
      have HO10 := Lib.hid (own_below HO9.out (hb10.mono (Nat.le_refl _)))
      obtain ⟨w11, hw11⟩ : ∃ w11, w11 = w10.setCell ⟨nb, 4, none⟩ (.slice ca mn cc) := ⟨_, rfl⟩
      have hf11 : Frm (· = nb) w10 w11 := by rw [hw11]; exact (Frm.refl (· = nb) w10).set (p := nb) (.inl rfl) 4 _
      have T11 := Lib.hid (T10.out.frm hf11 (fun i hi => by have := HNL.out; have hi2 : i = nb := hi; omega))
      have N11 := Lib.hid (show w11.heap[nb]? = some (.cells #[.int .i64 (gen + 1), .int .i64 cut2, .int .i64 fen2, .slice qa ln qc, .slice ca mn cc, .slice none 0 0] 26 (0, 0)) from by rw [hw11]; exact heap_set hn10 4 _)
      have HO11 := Lib.hid (own_frm HO10.out hf11 (fun b hb e => by have := HN7.out; have e2 : b = nb := e; omega))
      have HM11 := Lib.hid (own_frm hown10 hf11 (fun b hb e => by have := HN9.out; have e2 : b = nb := e; omega))
      have HS11 := Lib.hid (show w9.heap.size ≤ w11.heap.size from Nat.le_trans hb10.size hf11.size)
      have HW11 := Lib.hid hw11
      have n4 : w10.cell? ⟨nb, 4, none⟩ = some (.slice none 0 0) := cell_blk hn10 rfl
      have f4 : w10.frozen? ⟨nb, 4, none⟩ = false := fro_blk hn10 4
      clear hown10 hb10 hn10 hf11 hw11 a4
      go_upto_region 22 with fail
      rw [← HW11.out]
      clear n4 f4
      have f2 : w11.cell? ⟨w.heap.size + 1, 2, none⟩ = some (.slice ka kn kc) := cell_blk T11.out.g3 rfl
      go_wp2_with fail
      have HMNL := Lib.hid (show ms.length = mn from HM.out.len)
      go_loopw [88] (fun s88 wr => ∃ (k : Nat) (lo : List (Int × Int)) (va : Option Addr) (vc : Nat), k ≤ kn ∧ s88 = .int .i64 (k : Int) ∧ Hid (MarksOk ms (km.take k) lo) ∧ Hid (wr.ownsRow w9.heap.size 44 2 (.slice va lo.length vc) lo.length (MarkS.flat lo)) ∧ Hid (w11.heap.size ≤ wr.heap.size) ∧ Hid (T3 w wr #[.int .i64 gen, .int .i64 cut, .int .i64 fen, .slice ea en ec, .slice ma mn mc, .slice oa on oc] #[.slice aa an ac, .slice da dn dc, .slice ka kn kc, .int .i64 cut', .int .i64 fen', .int .i64 y0, .int .i64 y1, .int .i64 y2]) ∧ Hid (wr.heap[nb]? = some (.cells #[.int .i64 (gen + 1), .int .i64 cut2, .int .i64 fen2, .slice qa ln qc, .slice va lo.length vc, .slice none 0 0] 26 (0, 0))) ∧ Hid (wr.ownsRow w7.heap.size 42 9 (.slice qa ln qc) ln (EntS.flat zs))) (fun s88 _ => kn - (intOf s88).toNat)
      case atStart => exact ⟨0, ms, ca, cc, by omega, rfl, Lib.hid (by rw [List.take_zero]; exact marks_nil HPT.out.riseM), Lib.hid (by rw [HMNL.out]; exact HM11.out), Lib.hid (Nat.le_refl _), T11, Lib.hid (by rw [HMNL.out]; exact N11.out), HO11⟩
      case round =>
        clear f2
        obtain ⟨k, lo, va, vc, hk, rfl, HMO, HOW, HSZ, TR, NRW, HOX⟩ := hrel
        rename World => wr
        by_cases hkn : k < kn
        · have hki : (k : Int) < (kn : Int) := by omega
          obtain ⟨sb, so, rfl, hsl, _, hsc9⟩ := (HK.out.kept TR.out.below).get hkn
          obtain ⟨s, hse⟩ : ∃ s, s = km.getD k MarkS.z := ⟨_, rfl⟩
          rw [← hse] at hsc9
          have HTK := Lib.hid (show km.take (k + 1) = km.take k ++ [s] from by rw [take_snoc km MarkS.z (by rw [HK.out.len]; exact hkn), ← hse])
          have HSM := Lib.hid (show s ∈ km from by rw [hse]; exact vec_mem (S := MarkS) (by rw [HK.out.len]; exact hkn))
          obtain ⟨pk, hpk, hp1, hp2⟩ := place_of (fun x : Int × Int => x.1) HMO.out.rise s.1 MarkS.z
          have hlo := few_marks (r := km.take k) (out := lo) HMR.out HDR.out (fun x hx => List.mem_of_mem_take hx) HMO.out
          have hput := put_rise (fun x : Int × Int => x.1) HMO.out.rise s MarkS.z hpk hp1 hp2
          obtain ⟨ln2, hln2⟩ : ∃ n, n = lo.length := ⟨_, rfl⟩
          obtain ⟨wx, hwx⟩ : ∃ wx, wx = wr.alloc (.cells (MarkS.f s).toArray 44) := ⟨_, rfl⟩
          have hbx : Below wr.heap.size wr wx := by rw [hwx]; exact (Below.refl _ _).alloc (Nat.le_refl _) _
          have hx4 : wx.heap[wr.heap.size]? = some (.cells (MarkS.f s).toArray 44 (0, 0)) := by rw [hwx]; exact heap_alloc_new wr _
          obtain ⟨bx, hbxe⟩ : ∃ bx, bx = wr.heap.size := ⟨_, rfl⟩
          rw [← hbxe] at hx4
          have TX := Lib.hid (TR.out.step hbx)
          have hnx := (hbx.block nb (Array.getElem?_eq_some_iff.1 NRW.out).1).trans NRW.out
          have HPU := Lib.hid (put_anyM (w := wx) (base := w9.heap.size) (own_below HOW.out hbx) rfl (by omega) (by have := HS11.out; have := HSZ.out; have := hbx.size; omega) s hpk hp1 hp2)
          have HPR := Lib.hid (show (putRM lo pk s (fndBM lo lo.length pk s.1)).Pairwise ltM ∧ ∀ z, z ∈ putRM lo pk s (fndBM lo lo.length pk s.1) ↔ (z = s ∨ (z ∈ lo ∧ z.1 ≠ s.1)) from hput)
          obtain ⟨lp, hlp⟩ : ∃ lp, lp = putRM lo pk s (fndBM lo lo.length pk s.1) := ⟨_, rfl⟩
          have HPX := Lib.hid (show ∀ e w', PutIsM wx w9.heap.size va lo.length vc lo pk s (fndBM lo lo.length pk s.1) e w' → ∃ v', e = .returned v' ∧ w'.ownsRow w9.heap.size 44 2 v' lp.length (MarkS.flat lp) ∧ wx.grownBy w' (Value.slice va lo.length vc).ownBlock from fun e w' h => by rw [hlp]; exact h)
          rw [← hlp] at HPR
          have HOXX := Lib.hid (own_below HOX.out hbx)
          have HBLK := Lib.hid (show ∀ b, (Value.slice va lo.length vc).ownBlock = some b → w9.heap.size ≤ b from fun b hb => (World.ownsRow.lt HOW.out b hb).1)
          have HSZX := Lib.hid (show w11.heap.size ≤ wx.heap.size from Nat.le_trans HSZ.out hbx.size)
          have NX := Lib.hid hnx
          have HXE := Lib.hid (fun z => (World.ownsRow.lt HOXX.out z))
          have HOT := Lib.hid (own_ne2 HOXX.out (own_below HOW.out hbx) (by decide))
          have HWX := Lib.hid hwx
          have HBX := Lib.hid hbxe
          have n4 : wx.cell? ⟨nb, 4, none⟩ = some (.slice va lo.length vc) := cell_blk hnx rfl
          clear hput hlo hp1 hp2 hse hwx hbx hnx hbxe hlp hpk
          rw [← hln2] at n4 HPU HPX
          have HLN2 := Lib.hid hln2
          clear hln2
          obtain ⟨x0, x1⟩ := s
          have d0 : wr.cell? ⟨sb, so + k * 2, none⟩ = some (.int .i64 x0) := hsc9 0 _ rfl
          have d1 : wr.cell? ⟨sb, so + k * 2 + 1, none⟩ = some (.int .i64 x1) := hsc9 1 _ rfl
          have HWX2 := Lib.hid (show wx = wr.alloc (.cells #[.int .i64 x0, .int .i64 x1] 44) from HWX.out)
          clear hsc9
          go_upto_region 25 with fail
          rw [← HWX2.out, ← HBX.out]
          have e0 := cell_blk hx4 (i := 0) (u := .int .i64 x0) rfl
          have e1 := cell_blk hx4 (i := 1) (u := .int .i64 x1) rfl
          go_wp2_with fail
          refine HPU.out.mono ?_
          rintro e wp hpi
          obtain ⟨v2, rfl, hov, hgv⟩ := HPX.out e wp hpi
          obtain ⟨v2a, v2c, rfl⟩ := own_sl hov
          have hfp : Frm (fun b => w9.heap.size ≤ b) wx wp := ⟨hgv.os, hgv.tape, hgv.output, hgv.size, fun i hi hf => hgv.block i hi (fun e => hf (HBLK.out i (by rw [← HLN2.out]; exact e.symm)))⟩
          have TP := TX.out.frm hfp (fun i hi => by have := HNL.out; have := HN9.out; have hi2 : w9.heap.size ≤ i := hi; omega)
          have hnp := hfp.at NX.out (fun g => by have := HN9.out; have g2 : w9.heap.size ≤ nb := g; omega)
          have hop := World.ownsRow.kept HOXX.out hgv (by rw [HLN2.out]; exact HOT.out)
          obtain ⟨wz, hwz⟩ : ∃ wz, wz = wp.setCell ⟨nb, 4, none⟩ (.slice v2a lp.length v2c) := ⟨_, rfl⟩
          have hfz : Frm (· = nb) wp wz := by rw [hwz]; exact (Frm.refl (· = nb) wp).set (p := nb) (.inl rfl) 4 _
          have TZ := Lib.hid (TP.frm hfz (fun i hi => by have := HNL.out; have hi2 : i = nb := hi; omega))
          have NZ := Lib.hid (show wz.heap[nb]? = some (.cells #[.int .i64 (gen + 1), .int .i64 cut2, .int .i64 fen2, .slice qa ln qc, .slice v2a lp.length v2c, .slice none 0 0] 26 (0, 0)) from by rw [hwz]; exact heap_set hnp 4 _)
          have HOZ := Lib.hid (own_frm hop hfz (fun b hb e => by have := HN7.out; have e2 : b = nb := e; omega))
          have HMZ := Lib.hid (own_frm hov hfz (fun b hb e => by have := HN9.out; have e2 : b = nb := e; omega))
          have HSZZ := Lib.hid (show w11.heap.size ≤ wz.heap.size from Nat.le_trans HSZX.out (Nat.le_trans hfp.size hfz.size))
          have n5 : wp.cell? ⟨nb, 4, none⟩ = some (.slice va ln2 vc) := by rw [HLN2.out]; exact cell_blk hnp rfl
          have f5 : wp.frozen? ⟨nb, 4, none⟩ = false := fro_blk hnp 4
          have HWZ := Lib.hid hwz
          have HM2 := Lib.hid (show MarksOk ms (km.take (k + 1)) lp from by rw [HTK.out]; exact marks_snoc HMO.out HPR.out.1 HPR.out.2)
          clear hpi hov hgv hfp TP hnp hop hfz hwz
          go_upto_region 26 with fail
          rw [← HWZ.out]
          clear n5 f5 n4 e0 e1 d0 d1
          go_wp2_with fail
          go_roundw
          case rel => exact ⟨k + 1, lp, v2a, v2c, by omega, by go_num, HM2, HMZ, HSZZ, TZ, NZ, HOZ⟩
          case measure => simp [intOf]; omega
        · obtain rfl : kn = k := by omega
          have HMF := Lib.hid (show MarksOk ms km lo from by have h9 := HMO.out; rwa [take_len HK.out.len (Nat.le_refl _)] at h9)
          clear HMO hk hkn
          have hnl := few_owns HMR.out
          have HONL := Lib.hid (show os.length = on from HO.out.len)
          have HON := Lib.hid (show on ≤ 1000 from by have := HONL.out; simp only at hnl; omega)
          have hro : os.Pairwise ltO := HPT.out.riseO
          obtain ⟨pk, hpk, hp1, hp2⟩ := place_of (fun x : Int × Int × Int => x.1) hro y0 OwnS.z
          have hput := put_rise (fun x : Int × Int × Int => x.1) hro (y0, y1, y2) OwnS.z hpk hp1 hp2
          have HPR := Lib.hid (show (putRO os pk (y0, y1, y2) (fndBO os os.length pk y0)).Pairwise ltO ∧ ∀ z, z ∈ putRO os pk (y0, y1, y2) (fndBO os os.length pk y0) ↔ (z = (y0, y1, y2) ∨ (z ∈ os ∧ z.1 ≠ y0)) from hput)
          obtain ⟨lp, hlp⟩ : ∃ lp, lp = putRO os pk (y0, y1, y2) (fndBO os os.length pk y0) := ⟨_, rfl⟩
          have HPU := Lib.hid (show ∀ (W : World) (a : Option Addr) (c : Nat), wr.heap.size ≤ W.heap.size → W.ownsRow wr.heap.size 29 3 (.slice a on c) on (OwnS.flat os) → Calls Tryz.prog 32 #[.slice a on c, .agg #[.int .i64 y0, .int .i64 y1, .int .i64 y2], .func (.func 34) #[] #[]] W fun e w' => ∃ v', e = .returned v' ∧ w'.ownsRow wr.heap.size 29 3 v' lp.length (OwnS.flat lp) ∧ Below wr.heap.size W w' from fun W a c hs ho => by
            have h := put_anyO (w := W) (base := wr.heap.size) ho HONL.out HON.out hs (y0, y1, y2) (by have := HONL.out; omega) hp1 (fun t h1 h2 => hp2 t h1 (by have := HONL.out; omega))
            refine h.mono fun e w' h9 => ?_
            obtain ⟨v', h1, h2, h3⟩ := h9
            rw [← HONL.out, ← hlp] at h2
            exact ⟨v', h1, h2, (Below.refl _ W).grown h3 hs (fun j hj => (World.ownsRow.lt ho j hj).1)⟩)
          rw [← hlp] at HPR
          clear hro hnl hput hp1 hp2 hpk hlp
          have HCLO := Lib.hid (show ∀ W, Below wr.heap.size wr W → Calls Tryz.prog 33 #[.slice oa on oc] W fun e w' => ∃ v', e = .returned v' ∧ w'.ownsRow wr.heap.size 29 3 v' on (OwnS.flat os) ∧ Below wr.heap.size W w' from fun W hB =>
            (clone_anyO (w := W) (HO.out.kept (TR.out.below.trans (hB.mono TR.out.below.size))) HON.out).mono fun e w' h9 => by
              obtain ⟨v', h1, h2, h3⟩ := h9
              exact ⟨v', h1, own_base h2 hB.size, h3.mono hB.size⟩)
          have HNRL := Lib.hid (Array.getElem?_eq_some_iff.1 NRW.out).1
          have HLT := Lib.hid TR.out.lt
          go_upto_region 27 with fail
          refine wp_region_chain2 (by kernel_rfl) (by kernel_rfl) (by kernel_rfl) [2, 5, 7] false (by kernel_rfl) (fun k u y => match k with
              | 0 => Below wr.heap.size wr y
              | 1 => ∃ a c, u 0 = .slice a on c ∧ y.ownsRow wr.heap.size 29 3 (.slice a on c) on (OwnS.flat os) ∧ Below wr.heap.size wr y
              | 2 => ∃ a c, u 1 = .slice a lp.length c ∧ y.ownsRow wr.heap.size 29 3 (.slice a lp.length c) lp.length (OwnS.flat lp) ∧ Below wr.heap.size wr y
              | _ => ∃ a c y0, y0.ownsRow wr.heap.size 29 3 (.slice a lp.length c) lp.length (OwnS.flat lp) ∧ Below wr.heap.size wr y0 ∧ y = y0.setCell ⟨nb, 5, none⟩ (.slice a lp.length c)) (fun y => Below wr.heap.size wr y) (fun j_9 => match j_9 with | 0 => some (.pointer (some ⟨w.heap.size, 5, none⟩)) | 1 => some (.slice oa on oc) | 3 => some (.pointer (some ⟨w.heap.size + 1, 5, none⟩)) | 4 => some (.agg #[.int .i64 y0, .int .i64 y1, .int .i64 y2]) | 6 => some (.pointer (some ⟨nb, 5, none⟩)) | _ => none) (by rfl) (fun _ => (Below.refl _ _).drew) (fun k u y hk9 _ hs => by
              have hk : k < 3 := hk9 rfl
              clear hk9
              match k, hk, hs with
              | 0, _, hs => exact hs
              | 1, _, hs =>
                obtain ⟨_, _, _, _, h⟩ := hs
                exact h
              | 2, _, hs =>
                obtain ⟨_, _, _, _, h⟩ := hs
                exact h) ?_ ?_ ?_
          · intro i9 o ho hc9 V wv K hR9 hdep hK
            have HR9 := Lib.hid hR9
            have T9y := TR.out.step (show Below wr.heap.size wr wv from hR9)
            have a5 : wv.cell? ⟨w.heap.size, 5, none⟩ = some (.slice oa on oc) := cell_blk T9y.g2 rfl
            have e5 : wv.cell? ⟨w.heap.size + 1, 5, none⟩ = some (.int .i64 y0) := cell_blk T9y.g3 rfl
            have e6 : wv.cell? ⟨w.heap.size + 1, 6, none⟩ = some (.int .i64 y1) := cell_blk T9y.g3 rfl
            have e7 : wv.cell? ⟨w.heap.size + 1, 7, none⟩ = some (.int .i64 y2) := cell_blk T9y.g3 rfl
            clear T9y
            clear hR9
            have hin9 : i9 < 8 := (Array.getElem?_eq_some_iff.1 ho).1
            have hcs : i9 = 0 ∨ i9 = 1 ∨ i9 = 2 ∨ i9 = 3 ∨ i9 = 4 ∨ i9 = 5 ∨ i9 = 6 ∨ i9 = 7 := by omega
            clear hin9
            rcases hcs with rfl | rfl | rfl | rfl | rfl | rfl | rfl | rfl
            all_goals first
              | (cases hc9; done)
              | (obtain rfl := Option.some.inj ho.symm
                 simp [KnB, Region.binds] at hdep
                 clear ho hc9
                 simp only [fill, slotOf, List.size_toArray, List.length_cons, List.length_nil, Nat.reduceAdd, List.getElem?_toArray, List.getElem?_cons_zero, List.getElem?_cons_succ, Option.bind_some, Act.put, List.setIfInBounds_toArray, List.set_cons_zero, List.set_cons_succ] at hK ⊢
                 try simp only [hdep] at hK ⊢
                 go_simp
                 exact hK _ rfl _ rfl)
          · intro i9 j9 o he9 ho V wv K hS9 hdep hK
            have hin9 : i9 < 3 := (List.getElem?_eq_some_iff.1 he9).1
            have hcs : i9 = 0 ∨ i9 = 1 ∨ i9 = 2 := by omega
            clear hin9
            rcases hcs with rfl | rfl | rfl
            all_goals
              obtain rfl := Option.some.inj he9.symm
              obtain rfl := Option.some.inj ho.symm
              simp [KnB, Region.binds] at hdep
              clear ho he9
              simp only [fill, slotOf, List.size_toArray, List.length_cons, List.length_nil, Nat.reduceAdd, List.getElem?_toArray, List.getElem?_cons_zero, List.getElem?_cons_succ, Option.bind_some, Act.put, List.setIfInBounds_toArray, List.set_cons_zero, List.set_cons_succ] at hK ⊢
              try simp only [hdep] at hK ⊢
            · have HJ := Lib.hid (show Below wr.heap.size wr wv from hS9)
              have HC9 := Lib.hid (HCLO.out wv HJ.out)
              clear hS9
              go_simp
              refine HC9.out.mono ?_
              rintro e w9e ⟨v9, rfl, ho9, hb9⟩
              obtain ⟨a9, c9, rfl⟩ := own_sl ho9
              exact hK (.slice a9 on c9) w9e ⟨a9, c9, rfl, ho9, HJ.out.trans hb9⟩ (fun y h => by cases h) _ rfl
            · obtain ⟨a8, c8, hu8, ho8, hb8⟩ := hS9
              have hv8 : V 2 = .slice a8 on c8 := hu8
              have HC9 := Lib.hid (HPU.out wv a8 c8 hb8.size ho8)
              have HB8 := Lib.hid hb8
              clear hu8 ho8 hb8
              rw [hv8] at hK ⊢
              go_simp
              refine HC9.out.mono ?_
              rintro e w9e ⟨v9, rfl, ho9, hb9⟩
              obtain ⟨a9, c9, rfl⟩ := own_sl ho9
              exact hK (.slice a9 lp.length c9) w9e ⟨a9, c9, rfl, ho9, HB8.out.trans hb9⟩ (fun y h => by cases h) _ rfl
            · obtain ⟨a8, c8, hu8, ho8, hb8⟩ := hS9
              have hv8 : V 5 = .slice a8 lp.length c8 := hu8
              have HO8 := Lib.hid ho8
              have HB8 := Lib.hid hb8
              have hn8 := (hb8.block nb HNRL.out).trans NRW.out
              have n5 : wv.cell? ⟨nb, 5, none⟩ = some (.slice none 0 0) := cell_blk hn8 rfl
              have f5 : wv.frozen? ⟨nb, 5, none⟩ = false := fro_blk hn8 5
              clear hu8 ho8 hb8 hn8
              rw [hv8] at hK ⊢
              go_simp
              exact hK undef _ ⟨a8, c8, wv, HO8.out, HB8.out, rfl⟩ (fun y h => by cases h) _ rfl
          · intro V wN hS9 hv9
            obtain ⟨ya, yc, wu, hou, hbu, hwN⟩ := hS9
            have TU := TR.out.step hbu
            have hnu := (hbu.block nb HNRL.out).trans NRW.out
            have hfu : Frm (· = nb) wu wN := by rw [hwN]; exact (Frm.refl (· = nb) wu).set (p := nb) (.inl rfl) 5 _
            have TN := Lib.hid (TU.frm hfu (fun i hi => by have := HNL.out; have hi2 : i = nb := hi; omega))
            have hnN : wN.heap[nb]? = some (.cells #[.int .i64 (gen + 1), .int .i64 cut2, .int .i64 fen2, .slice qa ln qc, .slice va lo.length vc, .slice ya lp.length yc] 26 (0, 0)) := by rw [hwN]; exact heap_set hnu 5 _
            have HON2 := Lib.hid (own_frm hou hfu (fun b hb e => by have := HNRL.out; have e2 : b = nb := e; omega))
            have HOM2 := Lib.hid (own_frm (own_below HOW.out hbu) hfu (fun b hb e => by have := HN9.out; have e2 : b = nb := e; omega))
            have HOE2 := Lib.hid (own_frm (own_below HOX.out hbu) hfu (fun b hb e => by have := HN7.out; have e2 : b = nb := e; omega))
            have NN := Lib.hid hnN
            have n0 : wN.cell? ⟨nb, 0, none⟩ = some (.int .i64 (gen + 1)) := cell_blk hnN rfl
            have n1 : wN.cell? ⟨nb, 1, none⟩ = some (.int .i64 cut2) := cell_blk hnN rfl
            have n2 : wN.cell? ⟨nb, 2, none⟩ = some (.int .i64 fen2) := cell_blk hnN rfl
            have n3 : wN.cell? ⟨nb, 3, none⟩ = some (.slice qa ln qc) := cell_blk hnN rfl
            have n4 : wN.cell? ⟨nb, 4, none⟩ = some (.slice va lo.length vc) := cell_blk hnN rfl
            have n5 : wN.cell? ⟨nb, 5, none⟩ = some (.slice ya lp.length yc) := cell_blk hnN rfl
            clear hou hbu hwN TU hnu hfu hnN hv9
            have m0 : wN.cell? ⟨w.heap.size + 1 + 1, 0, none⟩ = some (.int .i64 0) := cell_blk TN.out.g4 rfl
            have m1 : wN.cell? ⟨w.heap.size + 1 + 1, 1, none⟩ = some (.int .i64 0) := cell_blk TN.out.g4 rfl
            have m2 : wN.cell? ⟨w.heap.size + 1 + 1, 2, none⟩ = some (.int .i64 0) := cell_blk TN.out.g4 rfl
            have m3 : wN.cell? ⟨w.heap.size + 1 + 1, 3, none⟩ = some (.slice none 0 0) := cell_blk TN.out.g4 rfl
            have m4 : wN.cell? ⟨w.heap.size + 1 + 1, 4, none⟩ = some (.slice none 0 0) := cell_blk TN.out.g4 rfl
            have m5 : wN.cell? ⟨w.heap.size + 1 + 1, 5, none⟩ = some (.slice none 0 0) := cell_blk TN.out.g4 rfl
            have z0 : wN.frozen? ⟨w.heap.size + 1 + 1, 0, none⟩ = false := fro_blk TN.out.g4 0
            have z1 : wN.frozen? ⟨w.heap.size + 1 + 1, 1, none⟩ = false := fro_blk TN.out.g4 1
            have z2 : wN.frozen? ⟨w.heap.size + 1 + 1, 2, none⟩ = false := fro_blk TN.out.g4 2
            have z3 : wN.frozen? ⟨w.heap.size + 1 + 1, 3, none⟩ = false := fro_blk TN.out.g4 3
            have z4 : wN.frozen? ⟨w.heap.size + 1 + 1, 4, none⟩ = false := fro_blk TN.out.g4 4
            have z5 : wN.frozen? ⟨w.heap.size + 1 + 1, 5, none⟩ = false := fro_blk TN.out.g4 5
            simp only [fill, slotOf, List.size_toArray, List.length_cons, List.length_nil, Nat.reduceAdd, List.getElem?_toArray, List.getElem?_cons_zero, List.getElem?_cons_succ, Option.bind_some, Act.put, List.setIfInBounds_toArray, List.set_cons_zero, List.set_cons_succ]
            go_wp2_with fail
            refine bodyPost_ret (ret_cell_tmp rfl _ _ (w.heap.size + 1 + 1) 26 #[.int .i64 (gen + 1), .int .i64 cut2, .int .i64 fen2, .slice qa ln qc, .slice va lo.length vc, .slice ya lp.length yc] _ _ rfl (set6A TN.out.g4 _ _ _ _ _ _) Tryz.underlying26 rfl (by kernel_rfl)) rfl ?_
            have HAO := Lib.hid (show ApOk (⟨gen, cut, fen, es, ms, os⟩ : MaV) (⟨ad, dr, km, cut', fen', (y0, y1, y2)⟩ : EdV) ⟨gen + 1, cut2, fen2, zs, lo, lp⟩ from ⟨rfl, HC2.out, HF2.out, HEO.out, HMF.out, owns_ok HPR.out.1 HPR.out.2⟩)
            have HF6 := Lib.hid (frm6A (F := fun b => b = w.heap.size + 1 + 1) (R := w.heap.size + 1 + 1) (Frm.refl _ wN) (.inl rfl) (.int .i64 (gen + 1)) (.int .i64 cut2) (.int .i64 fen2) (.slice qa ln qc) (.slice va lo.length vc) (.slice ya lp.length yc))
            refine ⟨0, ⟨gen + 1, cut2, fen2, zs, lo, lp⟩, qa, va, ya, qc, vc, yc, .inr ⟨rfl, HMR.out, HDR.out, HV.out, HU.out, HLL.out, HFF.out, HXX.out, HGN.out, by have := HZL.out; have := HLE.out; simp only; omega, HAO.out⟩, by simp only; rw [HZL.out]; rfl, ?_, ?_, ?_, below6A TN.out.below (by omega) _ _ _ _ _ _⟩
            · simp only; rw [HZL.out]; exact own_base (own_frm HOE2.out HF6.out (fun b hb e => by have := HN7.out; have := HNL.out; have e2 : b = w.heap.size + 1 + 1 := e; omega)) (by have := HN7.out; have := HNL.out; omega)
            · exact own_base (own_frm HOM2.out HF6.out (fun b hb e => by have := HN9.out; have := HNL.out; have e2 : b = w.heap.size + 1 + 1 := e; omega)) (by have := HN9.out; have := HNL.out; omega)
            · exact own_base (own_frm HON2.out HF6.out (fun b hb e => by have := HLT.out; have e2 : b = w.heap.size + 1 + 1 := e; omega)) (by have := HLT.out; omega)
end Go.Proofs.YtadfmenlpnibnaaGreat
end PkMS9_0
section PkMS9_1
/- Manifests: was a commit made; the entry of a key: package manifest's (parted from XMfH by a script). -/
namespace Go.Proofs.YtadfmenlpnibnaaGreat
open Go.RowKit LabPlain
set_option linter.unusedVariables false

theorem any_atH {α : Type} (p : α → Bool) (d : α) : ∀ (l : List α) (k : Nat), k < l.length → p (l.getD k d) = true → l.any p = true
  | x :: l, 0, _, h => by simp at h; simp [h]
  | x :: l, k + 1, hk, h => by
    rw [List.any_cons, any_atH p d l k (by simpa using hk) (by simpa using h), Bool.or_true]
theorem any_noH {α : Type} (p : α → Bool) (d : α) : ∀ (l : List α), (∀ j, j < l.length → p (l.getD j d) = false) → l.any p = false
  | [], _ => rfl
  | x :: l, h => by
    have hx : p x = false := by simpa using h 0 (by simp)
    rw [List.any_cons, hx, any_noH p d l (fun j hj => by simpa using h (j + 1) (by simpa using hj))]
    rfl
/-- an upload that an agent did -/
def didp (y0 y1 y2 : Int) (x : Int × Int × Int) : Bool := decide (x.1 = y0) && decide (x.2.1 = y1) && decide (y2 ≤ x.2.2)
def DidIs (l : List (Int × Int × Int)) (y0 y1 y2 : Int) (e : Ending) : Prop := e = .returned (.bool (l.any (didp y0 y1 y2)))
def IndexIs (l : List (Int × Int × Int)) (y0 y1 y2 : Int) (e : Ending) : Prop := ∃ z : Int, e = .returned (.int .i64 z) ∧ decide (z ≥ 0) = l.any (didp y0 y1 y2)
def FindAt (l : List EntV) (key : ByteArray) (n : Nat) (e : Ending) : Prop := ∃ z : Int, e = .returned (.int .i64 z) ∧ ((∃ k : Nat, z = k ∧ k < n ∧ l.find? (fun x => decide (x.key = key)) = some (l.getD k EntS.z)) ∨ (z = -1 ∧ l.find? (fun x => decide (x.key = key)) = none))

set_option maxRecDepth 100000 in
set_option maxHeartbeats 2000000 in
theorem didc_any {w : World} {p : Nat} {y0 y1 y2 : Int} (hp : p < w.heap.size) (h0 : w.cell? ⟨p, 0, none⟩ = some (.int .i64 y0)) (h1 : w.cell? ⟨p, 1, none⟩ = some (.int .i64 y1)) (h2 : w.cell? ⟨p, 2, none⟩ = some (.int .i64 y2)) (x0 x1 x2 : Int) :
    Calls Tryz.prog 40 #[.agg #[.int .i64 x0, .int .i64 x1, .int .i64 x2], .pointer (some ⟨p, 0, none⟩)] w fun e w' => e = .returned (.bool (didp y0 y1 y2 (x0, x1, x2))) ∧ Below w.heap.size w w' := by
  have HB := Lib.hid ((Below.refl w.heap.size w).alloc (Nat.le_refl _) (.cells #[.int .i64 x0, .int .i64 x1, .int .i64 x2] 29))
  go_enter Tryz.func40, Tryz.ntmps40
  by_cases e0 : x0 = y0
  · have b0 : (x0 == y0) = true := beq_iff_eq.2 e0
    by_cases e1 : x1 = y1
    · have b1 : (x1 == y1) = true := beq_iff_eq.2 e1
      by_cases e2 : y2 ≤ x2
      · have HD := Lib.hid (show didp y0 y1 y2 (x0, x1, x2) = true from by simp [didp, e0, e1, e2])
        clear e0 e1
        go_wp2_with fail
        go_ret
        exact ⟨by rw [HD.out]; rfl, HB.out⟩
      · have HD := Lib.hid (show didp y0 y1 y2 (x0, x1, x2) = false from by simp [didp, e2])
        clear e0 e1
        go_wp2_with fail
        go_ret
        exact ⟨by rw [HD.out]; rfl, HB.out⟩
    · have b1 : (x1 == y1) = false := beq_eq_false_iff_ne.2 e1
      have HD := Lib.hid (show didp y0 y1 y2 (x0, x1, x2) = false from by simp [didp, e1])
      clear e0 e1
      go_wp2_with fail
      go_ret
      exact ⟨by rw [HD.out]; rfl, HB.out⟩
  · have b0 : (x0 == y0) = false := beq_eq_false_iff_ne.2 e0
    have HD := Lib.hid (show didp y0 y1 y2 (x0, x1, x2) = false from by simp [didp, e0])
    clear e0
    go_wp2_with fail
    go_ret
    exact ⟨by rw [HD.out]; rfl, HB.out⟩

set_option maxRecDepth 100000 in
set_option maxHeartbeats 4000000 in
theorem index_any {w : World} {p : Nat} {y0 y1 y2 : Int} {oa : Option Addr} {on oc : Nat} {l : List (Int × Int × Int)} (hp : p < w.heap.size) (h0 : w.cell? ⟨p, 0, none⟩ = some (.int .i64 y0)) (h1 : w.cell? ⟨p, 1, none⟩ = some (.int .i64 y1)) (h2 : w.cell? ⟨p, 2, none⟩ = some (.int .i64 y2)) (h : VecAt OwnS w oa on oc l) :
    Calls Tryz.prog 67 #[.slice oa on oc, .func (.func 40) #[] #[.pointer (some ⟨p, 0, none⟩)]] w fun e w' => IndexIs l y0 y1 y2 e ∧ Below w.heap.size w w' := by
  have hcap := h.cap
  have hcm := h.capm
  have HH := Lib.hid h
  have HL := Lib.hid h.len
  have HP := Lib.hid hp
  have H0 := Lib.hid h0
  have H1 := Lib.hid h1
  have H2 := Lib.hid h2
  clear h hp h0 h1 h2
  go_enter Tryz.func67, Tryz.ntmps67
  go_wp2_with fail
  go_loopw [5, 8] (fun _ s8 wr => ∃ k : Nat, k ≤ on ∧ s8 = .int .i64 (k : Int) ∧ Hid (∀ j, j < k → didp y0 y1 y2 (l.getD j OwnS.z) = false) ∧ Hid (Below w.heap.size w wr)) (fun _ s8 _ => on - (intOf s8).toNat)
  case atStart => exact ⟨0, by omega, rfl, Lib.hid (fun j hj => by omega), Lib.hid (Below.refl _ _)⟩
  case round =>
    obtain ⟨k, hk, rfl, HN, HB⟩ := hrel
    rename World => wr
    by_cases hkn : k < on
    · have hki : (k : Int) < (on : Int) := by omega
      obtain ⟨sb, so, rfl, hsl, _, hsc9⟩ := (HH.out.kept HB.out).get hkn
      obtain ⟨s, hse⟩ : ∃ s, s = l.getD k OwnS.z := ⟨_, rfl⟩
      rw [← hse] at hsc9
      have HSE := Lib.hid hse
      obtain ⟨x0, x1, x2⟩ := s
      have d0 : wr.cell? ⟨sb, so + k * 3, none⟩ = some (.int .i64 x0) := hsc9 0 _ rfl
      have d1 : wr.cell? ⟨sb, so + k * 3 + 1, none⟩ = some (.int .i64 x1) := hsc9 1 _ rfl
      have d2 : wr.cell? ⟨sb, so + k * 3 + 2, none⟩ = some (.int .i64 x2) := hsc9 2 _ rfl
      have HCM := Lib.hid (didc_any (w := wr) (Nat.lt_of_lt_of_le HP.out HB.out.size) ((HB.out.cell (p := ⟨p, 0, none⟩) HP.out).trans H0.out) ((HB.out.cell (p := ⟨p, 1, none⟩) HP.out).trans H1.out) ((HB.out.cell (p := ⟨p, 2, none⟩) HP.out).trans H2.out) x0 x1 x2)
      clear hsc9 hse hsl
      go_wp2_with fail
      refine HCM.out.mono ?_
      rintro e w3 ⟨rfl, hb3⟩
      have HB3 := Lib.hid (HB.out.trans (hb3.mono HB.out.size))
      clear hb3
      cases hd : didp y0 y1 y2 (x0, x1, x2) with
      | true =>
        have HD := Lib.hid hd
        clear hd
        go_wp2_with fail
        go_ret
        exact ⟨⟨k, rfl, by rw [any_atH (didp y0 y1 y2) OwnS.z l k (by rw [HL.out]; exact hkn) (by rw [← HSE.out]; exact HD.out)]; exact decide_eq_true (by omega)⟩, HB3.out⟩
      | false =>
        have HN2 := Lib.hid (show ∀ j, j < k + 1 → didp y0 y1 y2 (l.getD j OwnS.z) = false from fun j hj => by
          rcases Nat.lt_or_ge j k with g | g
          · exact HN.out j g
          · rw [show j = k from by omega, ← HSE.out]; exact hd)
        clear hd
        go_wp2_with fail
        go_roundw
        case rel => exact ⟨k + 1, by omega, by go_num, HN2, HB3⟩
        case measure => simp [intOf]; omega
    · obtain rfl : on = k := by omega
      clear hkn
      go_wp2_with fail
      go_ret
      exact ⟨⟨-1, rfl, by rw [any_noH (didp y0 y1 y2) OwnS.z l (by rw [HL.out]; exact HN.out)]; rfl⟩, HB.out⟩
set_option maxRecDepth 100000 in
theorem contains_any {w : World} {p : Nat} {y0 y1 y2 : Int} {oa : Option Addr} {on oc : Nat} {l : List (Int × Int × Int)} (hp : p < w.heap.size) (h0 : w.cell? ⟨p, 0, none⟩ = some (.int .i64 y0)) (h1 : w.cell? ⟨p, 1, none⟩ = some (.int .i64 y1)) (h2 : w.cell? ⟨p, 2, none⟩ = some (.int .i64 y2)) (h : VecAt OwnS w oa on oc l) :
    Calls Tryz.prog 39 #[.slice oa on oc, .func (.func 40) #[] #[.pointer (some ⟨p, 0, none⟩)]] w fun e w' => DidIs l y0 y1 y2 e ∧ Below w.heap.size w w' := by
  have HI := Lib.hid (index_any hp h0 h1 h2 h)
  clear hp h0 h1 h2 h
  go_enter Tryz.func39, Tryz.ntmps39
  go_wp2_with fail
  refine HI.out.mono ?_
  rintro e w1 ⟨⟨z, rfl, hz⟩, hb⟩
  have HB := Lib.hid hb
  have HZ := Lib.hid hz
  clear hb hz
  go_wp2_with fail
  go_ret
  exact ⟨by unfold DidIs; rw [← HZ.out]; rfl, HB.out⟩
set_option maxRecDepth 100000 in
set_option maxHeartbeats 2000000 in
theorem did_any {w : World} {s d hz : Int} {ea ma oa : Option Addr} {en ec mn mc on oc : Nat} {l : List (Int × Int × Int)} (h : VecAt OwnS w oa on oc l) (y0 y1 y2 : Int) :
    Calls Tryz.prog 18 #[.agg #[.int .i64 s, .int .i64 d, .int .i64 hz, .slice ea en ec, .slice ma mn mc, .slice oa on oc], .agg #[.int .i64 y0, .int .i64 y1, .int .i64 y2]] w fun e w' => DidIs l y0 y1 y2 e ∧ Below w.heap.size w w' := by
  obtain ⟨wa, hwa⟩ : ∃ wa, wa = w.alloc (.cells #[.int .i64 s, .int .i64 d, .int .i64 hz, .slice ea en ec, .slice ma mn mc, .slice oa on oc] 26) := ⟨_, rfl⟩
  obtain ⟨wb, hwb⟩ : ∃ wb, wb = wa.alloc (.cells #[.int .i64 y0, .int .i64 y1, .int .i64 y2] 29) := ⟨_, rfl⟩
  have sa : wa.heap.size = w.heap.size + 1 := by rw [hwa]; exact Array.size_push _
  have sb : wb.heap.size = w.heap.size + 2 := by rw [hwb]; show (wa.heap.push _).size = _; rw [Array.size_push, sa]
  have ba : Below w.heap.size w wa := by rw [hwa]; exact (Below.refl _ _).alloc (Nat.le_refl _) _
  have bb : Below w.heap.size w wb := by rw [hwb]; exact ba.alloc ba.size _
  have gb : wb.heap[w.heap.size + 1]? = some (.cells #[.int .i64 y0, .int .i64 y1, .int .i64 y2] 29 (0, 0)) := by rw [hwb, ← sa]; exact heap_alloc_new _ _
  have ga : wb.heap[w.heap.size]? = some (.cells #[.int .i64 s, .int .i64 d, .int .i64 hz, .slice ea en ec, .slice ma mn mc, .slice oa on oc] 26 (0, 0)) := by rw [hwb, hao9 _ _ _ (by omega), hwa]; exact heap_alloc_new _ _
  have HCT := Lib.hid (contains_any (w := wb) (p := w.heap.size + 1) (by omega) (cell_blk gb rfl) (cell_blk gb rfl) (cell_blk gb rfl) (h.kept bb))
  have HBB := Lib.hid bb
  have HWB := Lib.hid (show (w.alloc (.cells #[.int .i64 s, .int .i64 d, .int .i64 hz, .slice ea en ec, .slice ma mn mc, .slice oa on oc] 26)).alloc (.cells #[.int .i64 y0, .int .i64 y1, .int .i64 y2] 29) = wb from by rw [hwb, hwa])
  have c5 : wb.cell? ⟨w.heap.size, 5, none⟩ = some (.slice oa on oc) := cell_blk ga rfl
  clear hwa hwb sa sb ba bb gb ga h
  go_enter Tryz.func18, Tryz.ntmps18
  go_wp2_with fail
  rw [HWB.out]
  go_wp2_with fail
  refine HCT.out.mono ?_
  rintro e w1 ⟨hd, hb⟩
  obtain ⟨q, hq⟩ : ∃ q, q = l.any (didp y0 y1 y2) := ⟨_, rfl⟩
  obtain rfl : e = .returned (.bool q) := by rw [hq]; exact hd
  have HB := Lib.hid (HBB.out.trans (hb.mono HBB.out.size))
  have HQ := Lib.hid hq
  clear hb hd hq
  go_wp2_with fail
  go_ret
  exact ⟨by unfold DidIs; rw [← HQ.out]; rfl, HB.out⟩

set_option maxRecDepth 100000 in
set_option maxHeartbeats 4000000 in
theorem find_any {w : World} {s d hz : Int} {ea ma oa : Option Addr} {en ec mn mc on oc : Nat} {l : List EntV} (h : VecAt EntS w ea en ec l) (key : ByteArray) :
    Calls Tryz.prog 14 #[.agg #[.int .i64 s, .int .i64 d, .int .i64 hz, .slice ea en ec, .slice ma mn mc, .slice oa on oc], .string key] w fun e w' => LkE l key e ∧ Below w.heap.size w w' := by
  obtain ⟨wa, hwa⟩ : ∃ wa, wa = w.alloc (.cells #[.int .i64 s, .int .i64 d, .int .i64 hz, .slice ea en ec, .slice ma mn mc, .slice oa on oc] 26) := ⟨_, rfl⟩
  obtain ⟨wb, hwb⟩ : ∃ wb, wb = wa.alloc (.cells #[.string { data := #[] }, .int .i64 0, .string { data := #[] }, .int .i64 0, .int .i64 0, .int .i64 0, .int .i64 0, .int .u32 0, .int .i64 0] 42) := ⟨_, rfl⟩
  have sa : wa.heap.size = w.heap.size + 1 := by rw [hwa]; exact Array.size_push _
  have sb : wb.heap.size = w.heap.size + 2 := by rw [hwb]; show (wa.heap.push _).size = _; rw [Array.size_push, sa]
  have ba : Below w.heap.size w wa := by rw [hwa]; exact (Below.refl _ _).alloc (Nat.le_refl _) _
  have bb : Below w.heap.size w wb := by rw [hwb]; exact ba.alloc ba.size _
  have gb : wb.heap[w.heap.size + 1]? = some (.cells #[.string { data := #[] }, .int .i64 0, .string { data := #[] }, .int .i64 0, .int .i64 0, .int .i64 0, .int .i64 0, .int .u32 0, .int .i64 0] 42 (0, 0)) := by rw [hwb, ← sa]; exact heap_alloc_new _ _
  have ga : wb.heap[w.heap.size]? = some (.cells #[.int .i64 s, .int .i64 d, .int .i64 hz, .slice ea en ec, .slice ma mn mc, .slice oa on oc] 26 (0, 0)) := by rw [hwb, hao9 _ _ _ (by omega), hwa]; exact heap_alloc_new _ _
  have HLK := Lib.hid (lookE_any (h.kept bb) key 0 { data := #[] } 0 0 0 0 0 0)
  have HBB := Lib.hid bb
  have HGB := Lib.hid gb
  have HSB := Lib.hid sb
  have HWB := Lib.hid (show (w.alloc (.cells #[.int .i64 s, .int .i64 d, .int .i64 hz, .slice ea en ec, .slice ma mn mc, .slice oa on oc] 26)).alloc (.cells #[.string { data := #[] }, .int .i64 0, .string { data := #[] }, .int .i64 0, .int .i64 0, .int .i64 0, .int .i64 0, .int .u32 0, .int .i64 0] 42) = wb from by rw [hwb, hwa])
  have c3 : wb.cell? ⟨w.heap.size, 3, none⟩ = some (.slice ea en ec) := cell_blk ga rfl
  clear hwa hwb sa sb ba bb gb ga h
  go_enter Tryz.func14, Tryz.ntmps14
  go_wp2_with fail
  rw [HWB.out]
  go_wp2_with fail
  refine HLK.out.mono ?_
  rintro e w1 ⟨hl, hb⟩
  obtain ⟨r, hr⟩ : ∃ r, r = (l.find? fun x => decide (x.key = key)).getD EntS.z := ⟨_, rfl⟩
  obtain ⟨fd, hfd⟩ : ∃ fd, fd = (l.find? fun x => decide (x.key = key)).isSome := ⟨_, rfl⟩
  have HR := Lib.hid hr
  have HFD := Lib.hid hfd
  obtain ⟨x0, x1, x2, x3, x4, x5, x6, x7, x8⟩ := r
  obtain rfl : e = .returned (.tuple #[.agg #[.string x0, .int .i64 x1, .string x2, .int .i64 x3, .int .i64 x4, .int .i64 x5, .int .i64 x6, .int .u32 x7, .int .i64 x8], .bool fd]) := by
    have h2 := hl
    unfold LkE at h2
    rw [← hr, ← hfd] at h2
    exact h2
  have HB := Lib.hid (HBB.out.trans (hb.mono HBB.out.size))
  have hg1 := (hb.block (w.heap.size + 1) (by have := HSB.out; omega)).trans HGB.out
  have HG1 := Lib.hid hg1
  have r0 : w1.cell? ⟨w.heap.size + 1, 0, none⟩ = some (.string { data := #[] }) := cell_blk hg1 rfl
  have f0 : w1.frozen? ⟨w.heap.size + 1, 0, none⟩ = false := fro_blk hg1 0
  have r1 : w1.cell? ⟨w.heap.size + 1, 1, none⟩ = some (.int .i64 0) := cell_blk hg1 rfl
  have f1 : w1.frozen? ⟨w.heap.size + 1, 1, none⟩ = false := fro_blk hg1 1
  have r2 : w1.cell? ⟨w.heap.size + 1, 2, none⟩ = some (.string { data := #[] }) := cell_blk hg1 rfl
  have f2 : w1.frozen? ⟨w.heap.size + 1, 2, none⟩ = false := fro_blk hg1 2
  have r3 : w1.cell? ⟨w.heap.size + 1, 3, none⟩ = some (.int .i64 0) := cell_blk hg1 rfl
  have f3 : w1.frozen? ⟨w.heap.size + 1, 3, none⟩ = false := fro_blk hg1 3
  have r4 : w1.cell? ⟨w.heap.size + 1, 4, none⟩ = some (.int .i64 0) := cell_blk hg1 rfl
  have f4 : w1.frozen? ⟨w.heap.size + 1, 4, none⟩ = false := fro_blk hg1 4
  have r5 : w1.cell? ⟨w.heap.size + 1, 5, none⟩ = some (.int .i64 0) := cell_blk hg1 rfl
  have f5 : w1.frozen? ⟨w.heap.size + 1, 5, none⟩ = false := fro_blk hg1 5
  have r6 : w1.cell? ⟨w.heap.size + 1, 6, none⟩ = some (.int .i64 0) := cell_blk hg1 rfl
  have f6 : w1.frozen? ⟨w.heap.size + 1, 6, none⟩ = false := fro_blk hg1 6
  have r7 : w1.cell? ⟨w.heap.size + 1, 7, none⟩ = some (.int .u32 0) := cell_blk hg1 rfl
  have f7 : w1.frozen? ⟨w.heap.size + 1, 7, none⟩ = false := fro_blk hg1 7
  have r8 : w1.cell? ⟨w.heap.size + 1, 8, none⟩ = some (.int .i64 0) := cell_blk hg1 rfl
  have f8 : w1.frozen? ⟨w.heap.size + 1, 8, none⟩ = false := fro_blk hg1 8
  clear hb hr hfd hl hg1
  go_wp2_with fail
  refine bodyPost_ret (ret_cell_tmp rfl _ _ (w.heap.size + 1) 42 #[.string x0, .int .i64 x1, .string x2, .int .i64 x3, .int .i64 x4, .int .i64 x5, .int .i64 x6, .int .u32 x7, .int .i64 x8] _ _ rfl (setE HG1.out x0 x1 x2 x3 x4 x5 x6 x7 x8) Tryz.underlying42 rfl (by kernel_rfl)) rfl ?_
  refine ⟨?_, belowE HB.out (by omega) x0 x1 x2 x3 x4 x5 x6 x7 x8⟩
  unfold LkE
  rw [← HR.out, ← HFD.out]
  rfl


end Go.Proofs.YtadfmenlpnibnaaGreat
end PkMS9_1
section PkMS9_2
/- Manifests: few, and what it says. Written by genmfj.py. -/
namespace Go.Proofs.YtadfmenlpnibnaaGreat
open Go.RowKit LabPlain
set_option linter.unusedVariables false

def FewIs (en mn on : Nat) (l : List EntV) (e : Ending) : Prop := ∃ b : Bool, e = .returned (.bool b) ∧ (b = true → en ≤ 300 ∧ mn ≤ 100 ∧ on ≤ 20 ∧ ∀ j, j < en → (l.getD j EntS.z).key.size ≤ 100 ∧ (l.getD j EntS.z).part.size ≤ 1200)
theorem FewIs.no {en mn on : Nat} {l : List EntV} : FewIs en mn on l (.returned (.bool false)) := ⟨false, rfl, fun e => (by cases e)⟩
theorem FewIs.all {en : Nat} {w : World} {a : Option Addr} {c : Nat} {l : List EntV} (h : VecAt EntS w a en c l) (hf : ∀ j, j < en → (l.getD j EntS.z).key.size ≤ 100 ∧ (l.getD j EntS.z).part.size ≤ 1200) : ∀ x ∈ l, x.key.size ≤ 100 ∧ x.part.size ≤ 1200 := fun x hx => by
  obtain ⟨j, hj, e⟩ := List.getElem_of_mem hx
  have e2 : l.getD j EntS.z = x := by simp [hj, e]
  rw [← e2]
  exact hf j (by rw [← h.len]; exact hj)
set_option maxRecDepth 100000 in
set_option maxHeartbeats 4000000 in
theorem few_says {w : World} {s d hz : Int} {ea ma oa : Option Addr} {en ec mn mc on oc : Nat} {l : List EntV} (h : VecAt EntS w ea en ec l) :
    Calls Tryz.prog 8 #[.agg #[.int .i64 s, .int .i64 d, .int .i64 hz, .slice ea en ec, .slice ma mn mc, .slice oa on oc]] w fun e w' => FewIs en mn on l e ∧ Below w.heap.size w w' := by
  have hcap := h.cap
  have hcm := h.capm
  have HH := Lib.hid h
  obtain ⟨wb, hwb⟩ : ∃ wb, wb = w.alloc (.cells #[.int .i64 s, .int .i64 d, .int .i64 hz, .slice ea en ec, .slice ma mn mc, .slice oa on oc] 26) := ⟨_, rfl⟩
  have bb : Below w.heap.size w wb := by rw [hwb]; exact (Below.refl _ _).alloc (Nat.le_refl _) _
  have ga : wb.heap[w.heap.size]? = some (.cells #[.int .i64 s, .int .i64 d, .int .i64 hz, .slice ea en ec, .slice ma mn mc, .slice oa on oc] 26 (0, 0)) := by rw [hwb]; exact heap_alloc_new _ _
  have HBB := Lib.hid bb
  have HWB := Lib.hid (show w.alloc (.cells #[.int .i64 s, .int .i64 d, .int .i64 hz, .slice ea en ec, .slice ma mn mc, .slice oa on oc] 26) = wb from hwb.symm)
  have m0 : wb.cell? ⟨w.heap.size, 0, none⟩ = some (.int .i64 s) := cell_blk ga rfl
  have m1 : wb.cell? ⟨w.heap.size, 1, none⟩ = some (.int .i64 d) := cell_blk ga rfl
  have m2 : wb.cell? ⟨w.heap.size, 2, none⟩ = some (.int .i64 hz) := cell_blk ga rfl
  have m3 : wb.cell? ⟨w.heap.size, 3, none⟩ = some (.slice ea en ec) := cell_blk ga rfl
  have m4 : wb.cell? ⟨w.heap.size, 4, none⟩ = some (.slice ma mn mc) := cell_blk ga rfl
  have m5 : wb.cell? ⟨w.heap.size, 5, none⟩ = some (.slice oa on oc) := cell_blk ga rfl
  clear hwb bb ga h
  go_enter Tryz.func8, Tryz.ntmps8
  by_cases b1 : (en : Int) > 300
  · go_wp2_with fail
    first | go_ret | (rw [HWB.out]; go_wp2_with fail; go_ret)
    exact ⟨FewIs.no, by first | exact HBB.out | (rw [HWB.out]; exact HBB.out)⟩
  by_cases b2 : (mn : Int) > 100
  · go_wp2_with fail
    first | go_ret | (rw [HWB.out]; go_wp2_with fail; go_ret)
    exact ⟨FewIs.no, by first | exact HBB.out | (rw [HWB.out]; exact HBB.out)⟩
  by_cases b3 : (on : Int) > 20
  · go_wp2_with fail
    first | go_ret | (rw [HWB.out]; go_wp2_with fail; go_ret)
    exact ⟨FewIs.no, by first | exact HBB.out | (rw [HWB.out]; exact HBB.out)⟩
  have HS := Lib.hid (show en ≤ 300 ∧ mn ≤ 100 ∧ on ≤ 20 from ⟨by omega, by omega, by omega⟩)
  go_wp2_with fail
  rw [HWB.out]
  clear m0 m1 m2 m3 m4 m5 b2 b3
  go_loopw [4, 24] (fun _ s24 wr => ∃ k : Nat, k ≤ en ∧ s24 = .int .i64 (k : Int) ∧ Hid (∀ j, j < k → (l.getD j EntS.z).key.size ≤ 100 ∧ (l.getD j EntS.z).part.size ≤ 1200) ∧ Hid (Below wb.heap.size wb wr)) (fun _ s24 _ => en - (intOf s24).toNat)
  case atStart => exact ⟨0, by omega, rfl, Lib.hid (fun j hj => by omega), Lib.hid (Below.refl _ _)⟩
  case round =>
    obtain ⟨k, hk, rfl, HN, HB⟩ := hrel
    rename World => wr
    by_cases hkn : k < en
    · have hki : (k : Int) < (en : Int) := by omega
      obtain ⟨sb, so, rfl, hsl, _, hsc9⟩ := (HH.out.kept (HBB.out.trans (HB.out.mono HBB.out.size))).get hkn
      obtain ⟨sx, hsx⟩ : ∃ sx, sx = l.getD k EntS.z := ⟨_, rfl⟩
      rw [← hsx] at hsc9
      have HSX := Lib.hid hsx
      obtain ⟨x0, x1, x2, x3, x4, x5, x6, x7, x8⟩ := sx
      have d0 : wr.cell? ⟨sb, so + k * 9, none⟩ = some (.string x0) := hsc9 0 _ rfl
      have d1 : wr.cell? ⟨sb, so + k * 9 + 1, none⟩ = some (.int .i64 x1) := hsc9 1 _ rfl
      have d2 : wr.cell? ⟨sb, so + k * 9 + 2, none⟩ = some (.string x2) := hsc9 2 _ rfl
      have d3 : wr.cell? ⟨sb, so + k * 9 + 3, none⟩ = some (.int .i64 x3) := hsc9 3 _ rfl
      have d4 : wr.cell? ⟨sb, so + k * 9 + 4, none⟩ = some (.int .i64 x4) := hsc9 4 _ rfl
      have d5 : wr.cell? ⟨sb, so + k * 9 + 5, none⟩ = some (.int .i64 x5) := hsc9 5 _ rfl
      have d6 : wr.cell? ⟨sb, so + k * 9 + 6, none⟩ = some (.int .i64 x6) := hsc9 6 _ rfl
      have d7 : wr.cell? ⟨sb, so + k * 9 + 7, none⟩ = some (.int .u32 x7) := hsc9 7 _ rfl
      have d8 : wr.cell? ⟨sb, so + k * 9 + 8, none⟩ = some (.int .i64 x8) := hsc9 8 _ rfl
      have HAL := Lib.hid (show Below wb.heap.size wb (wr.alloc (.cells #[.string x0, .int .i64 x1, .string x2, .int .i64 x3, .int .i64 x4, .int .i64 x5, .int .i64 x6, .int .u32 x7, .int .i64 x8] 42)) from HB.out.alloc HB.out.size _)
      have HE := Lib.hid (show Below w.heap.size w (wr.alloc (.cells #[.string x0, .int .i64 x1, .string x2, .int .i64 x3, .int .i64 x4, .int .i64 x5, .int .i64 x6, .int .u32 x7, .int .i64 x8] 42)) from HBB.out.trans (HAL.out.mono HBB.out.size))
      clear hsc9 hsl hsx
      by_cases q1 : (x0.size : Int) > 100
      · go_wp2_with fail
        go_ret
        exact ⟨FewIs.no, HE.out⟩
      by_cases q2 : (x2.size : Int) > 1200
      · go_wp2_with fail
        go_ret
        exact ⟨FewIs.no, HE.out⟩
      have HN2 := Lib.hid (show ∀ j, j < k + 1 → (l.getD j EntS.z).key.size ≤ 100 ∧ (l.getD j EntS.z).part.size ≤ 1200 from fun j hj => by
        rcases Nat.lt_or_ge j k with g | g
        · exact HN.out j g
        · rw [show j = k from by omega, ← HSX.out]
          exact ⟨by show x0.size ≤ 100; omega, by show x2.size ≤ 1200; omega⟩)
      go_wp2_with fail
      go_roundw
      case rel => exact ⟨k + 1, by omega, by go_num, HN2, HAL⟩
      case measure => simp [intOf]; omega
    · obtain rfl : en = k := by omega
      have HE := Lib.hid (HBB.out.trans (HB.out.mono HBB.out.size))
      have HY := Lib.hid (show FewIs en mn on l (.returned (.bool true)) from ⟨true, rfl, fun _ => ⟨HS.out.1, HS.out.2.1, HS.out.2.2, HN.out⟩⟩)
      clear hkn
      go_wp2_with fail
      go_ret
      exact ⟨HY.out, HE.out⟩
end Go.Proofs.YtadfmenlpnibnaaGreat
end PkMS9_2
