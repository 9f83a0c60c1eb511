/- The closures of the store's list and opened, walked. -/
import Derived.Test.YtjafagfhkpaciaaStoPl
import Derived.Test.YtjafagfhkpaciaaStoSh
import Derived.Test.YtjafagfhkpaciaaStoSize
import Derived.Test.YtjafagfhkpaciaaStoDrop
import Derived.Test.YtjafagfhkpaciaaStoRep
import Derived.Test.YtjafagfhkpaciaaVec
import Derived.Deep.CutBlock
import Derived.BigRegion
namespace Go.Proofs.Ytjafagfhkpaciaa
open Go.RowKit
set_option linter.unusedVariables false

structure ItemV where
  key : ByteArray
  ver : Int
  size : Int
  born : Int
def ItemS : Sty ItemV := ⟨fun x => [.string x.key, .int .i64 x.ver, .int .i64 x.size, .int .i64 x.born], 4, ⟨ByteArray.empty, 0, 0, 0⟩, fun _ _ => True, by decide, fun _ => rfl, (fun x u hu => by
  simp only [List.mem_cons, List.not_mem_nil, or_false] at hu
  rcases hu with rfl | rfl | rfl | rfl <;> rfl), fun _ h => h⟩
def itemV (x : ItemV) : Value := .agg #[.string x.key, .int .i64 x.ver, .int .i64 x.size, .int .i64 x.born]
def gtB (k beh : ByteArray) : Bool := !Op.bytesLess k.toList beh.toList && !k.toList == beh.toList
def wantK (pre beh k : ByteArray) : Bool := Lib.hasPrefix k.data.toList pre.data.toList && gtB k beh
def itemO (k : ByteArray) (o : ObjS) : ItemV := ⟨k, o.ver, (o.data.size : Int), o.born⟩
set_option maxRecDepth 100000 in
set_option maxHeartbeats 1000000 in
theorem listWant_any {w : World} {cb bb : Nat} {pre beh : ByteArray} (h1 : w.cell? ⟨cb, 1, none⟩ = some (.string pre)) (h2 : w.cell? ⟨bb, 0, none⟩ = some (.string beh)) (k : ByteArray) :
    Calls Try.prog 43 #[.string k, .pointer (some ⟨cb, 0, none⟩), .pointer (some ⟨bb, 0, none⟩)] w fun e w' => e = .returned (.bool (wantK pre beh k)) ∧ w' = w := by
  have HP := Lib.hid (sh_strings_HasPrefix k pre w)
  go_enter Try.func43, Try.ntmps43
  go_wp2_with fail
  refine HP.out.mono ?_
  rintro e w1 ⟨rfl, rfl⟩
  cases hp : Lib.hasPrefix k.data.toList pre.data.toList with
  | true =>
    go_wp2_with fail
    first | go_ret2 | go_ret
    exact ⟨by unfold wantK gtB; rw [hp]; rfl, rfl⟩
  | false =>
    go_wp2_with fail
    first | go_ret2 | go_ret
    exact ⟨by unfold wantK; rw [hp]; rfl, rfl⟩
set_option maxRecDepth 100000 in
set_option maxHeartbeats 1000000 in
theorem listItem_any (w : World) (k d : ByteArray) (v b : Int) :
    Calls Try.prog 46 #[.string k, .agg #[.string d, .int .i64 v, .int .i64 b]] w fun e w' => e = .returned (.agg #[.string k, .int .i64 v, .int .i64 (d.size : Int), .int .i64 b]) ∧ Below w.heap.size w w' := by
  go_enter Try.func46, Try.ntmps46
  go_wp2_with fail
  have h1 : ((w.alloc (.cells #[.string d, .int .i64 v, .int .i64 b] 65)).alloc (.cells #[.string k, .int .i64 v, .int .i64 (d.size : Int), .int .i64 b] 46)).heap[w.heap.size + 1]? = some (.cells #[.string k, .int .i64 v, .int .i64 (d.size : Int), .int .i64 b] 46 (0, 0)) := by
    have := heap_new (w.alloc (.cells #[.string d, .int .i64 v, .int .i64 b] 65)) (.cells #[.string k, .int .i64 v, .int .i64 (d.size : Int), .int .i64 b] 46)
    rwa [show (w.alloc (.cells #[.string d, .int .i64 v, .int .i64 b] 65)).heap.size = w.heap.size + 1 from by simp] at this
  exact bodyPost_ret (ret_cell rfl _ _ (w.heap.size + 1) 46 _ _ _ rfl h1 Try.underlying46 rfl (by kernel_rfl)) rfl ⟨rfl, ((Below.refl _ _).alloc (Nat.le_refl _) _).alloc (by simp) _⟩
set_option maxRecDepth 100000 in
set_option maxHeartbeats 1000000 in
theorem openWant_any {w : World} {cb : Nat} {id : Int} (h1 : w.cell? ⟨cb, 6, none⟩ = some (.int .i64 id)) (k : Int) :
    Calls Try.prog 51 #[.int .i64 k, .pointer (some ⟨cb, 0, none⟩)] w fun e w' => e = .returned (.bool (decide (id < k))) ∧ w' = w := by
  go_enter Try.func51, Try.ntmps51
  go_wp2_with fail
  first | go_ret2 | go_ret
  exact ⟨rfl, rfl⟩
theorem setI_end {w w9 : World} {R : Nat} {y0 y1 y2 y3 : Value} {t : TypeId} (g : w9.heap[R]? = some (.cells #[y0, y1, y2, y3] t (0, 0))) (hb : Below w.heap.size w w9) (hR : w.heap.size ≤ R) (x0 x1 x2 x3 : Value) :
    ((((w9.setCell ⟨R, 0, none⟩ x0).setCell ⟨R, 1, none⟩ x1).setCell ⟨R, 2, none⟩ x2).setCell ⟨R, 3, none⟩ x3).heap[R]? = some (.cells #[x0, x1, x2, x3] t (0, 0)) ∧
    Below w.heap.size w ((((w9.setCell ⟨R, 0, none⟩ x0).setCell ⟨R, 1, none⟩ x1).setCell ⟨R, 2, none⟩ x2).setCell ⟨R, 3, none⟩ x3) := by
  have h0 := heap_setCell_same w9 R 0 _ _ x0 g
  have h1 := heap_setCell_same _ R 1 _ _ x1 h0
  have h2 := heap_setCell_same _ R 2 _ _ x2 h1
  have h3 := heap_setCell_same _ R 3 _ _ x3 h2
  refine ⟨h3.trans rfl, ?_⟩
  have f := ((((Frm.refl (fun b => b = R) w9).set (p := R) (.inl rfl) 0 x0).set (p := R) (.inl rfl) 1 x1).set (p := R) (.inl rfl) 2 x2).set (p := R) (.inl rfl) 3 x3
  exact hb.trans (f.toBelow hb.size (fun i e => by rw [e]; exact hR))
set_option maxRecDepth 100000 in
set_option maxHeartbeats 4000000 in
theorem openItem_any {w : World} {p : Nat} {l : List (Int × ByteArray)} (h : GM TP ilit prtC w p l) (hw : ∀ x ∈ l, (Lit.int .i64 x.1).wf = true) (hs : psz l ≤ 1000000000) (k : Int) (us : ByteArray) (ub : Int) :
    Calls Try.prog 53 #[.int .i64 k, .agg #[.string us, .int .i64 ub, .map (some p)]] w fun e w' => e = .returned (.agg #[.string us, .int .i64 k, .int .i64 ((psz l : Nat) : Int), .int .i64 ub]) ∧ Below w.heap.size w w' := by
  obtain ⟨w1, hw1⟩ : ∃ w1, w1 = (w.alloc (.cells #[.string us, .int .i64 ub, .map (some p)] 68)).alloc (.cells #[.string { data := #[] }, .int .i64 0, .int .i64 0, .int .i64 0] 46) := ⟨_, rfl⟩
  have hb1 : Below w.heap.size w w1 := by rw [hw1]; exact ((Below.refl _ _).alloc (Nat.le_refl _) _).alloc (by simp) _
  have hu : w1.heap[w.heap.size]? = some (.cells #[.string us, .int .i64 ub, .map (some p)] 68 (0, 0)) := by
    rw [hw1]; exact (Below.heap_alloc _ _ _ (by simp)).trans (heap_new w _)
  have hi : w1.heap[w.heap.size + 1]? = some (.cells #[.string { data := #[] }, .int .i64 0, .int .i64 0, .int .i64 0] 46 (0, 0)) := by
    have := heap_new (w.alloc (.cells #[.string us, .int .i64 ub, .map (some p)] 68)) (.cells #[.string { data := #[] }, .int .i64 0, .int .i64 0, .int .i64 0] 46)
    rw [← hw1] at this
    rwa [show (w.alloc (.cells #[.string us, .int .i64 ub, .map (some p)] 68)).heap.size = w.heap.size + 1 from by simp] at this
  have HC := Lib.hid (size_any (h.below (hb1.trans (Below.refl _ w1).drew)) hw hs us ub)
  have HK := Lib.hid (show ∀ w9, Below w1.drew.heap.size w1.drew w9 → (w9.cell? ⟨w.heap.size, 0, none⟩ = some (.string us) ∧ w9.cell? ⟨w.heap.size, 1, none⟩ = some (.int .i64 ub)) ∧ w9.heap[w.heap.size + 1]? = some (.cells #[.string { data := #[] }, .int .i64 0, .int .i64 0, .int .i64 0] 46 (0, 0)) ∧ Below w.heap.size w w9 from fun w9 h9 => by
    have h2 : Below w1.heap.size w1 w9 := ((Below.refl _ _).drew).trans h9
    have g1 := (h2.block _ (Array.getElem?_eq_some_iff.1 hu).1).trans hu
    exact ⟨⟨cell_blk2 g1 rfl, cell_blk2 g1 rfl⟩, (h2.block _ (Array.getElem?_eq_some_iff.1 hi).1).trans hi, hb1.trans (h2.mono hb1.size)⟩)
  have u0 := cell_blk2 hu (i := 0) (u := .string us) rfl
  have u1 := cell_blk2 hu (i := 1) (u := .int .i64 ub) rfl
  have u2 := cell_blk2 hu (i := 2) (u := .map (some p)) rfl
  have HW1 := Lib.hid hw1
  clear h hw hs hb1 hu hi hw1
  go_enter Try.func53, Try.ntmps53
  go_upto_region 1 with fail
  rw [← HW1.out]
  go_region_with (go_at_call 54; refine HC.out.mono ?_; rintro e w9 ⟨rfl, hb9⟩; obtain ⟨⟨g0, g1⟩, g2, g3⟩ := HK.out w9 hb9; have HG2 := Lib.hid g2; have HG3 := Lib.hid g3; have i0 := cell_blk2 g2 (i := 0) rfl; have i1 := cell_blk2 g2 (i := 1) rfl; have i2 := cell_blk2 g2 (i := 2) rfl; have i3 := cell_blk2 g2 (i := 3) rfl; have f0 := fro_blk2 g2 0; have f1 := fro_blk2 g2 1; have f2 := fro_blk2 g2 2; have f3 := fro_blk2 g2 3; rw [show totK (fun d : ByteArray => d.size) l = psz l from rfl]; clear g2 g3 hb9)
  all_goals
    go_wp2_with fail
    obtain ⟨e1, e2⟩ := setI_end HG2.out HG3.out (Nat.le_succ _) (.string us) (.int .i64 k) (.int .i64 ((psz l : Nat) : Int)) (.int .i64 ub)
    exact bodyPost_ret (ret_cell rfl _ _ (w.heap.size + 1) 46 _ _ _ rfl e1 Try.underlying46 rfl (by kernel_rfl)) rfl ⟨rfl, e2⟩
end Go.Proofs.Ytjafagfhkpaciaa
